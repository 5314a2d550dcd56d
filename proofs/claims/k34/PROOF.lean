import PyProof.Rows.All
import Wide.All
import OpenK.AllK
import Wide.FinOn
import HandS.ForMost
import HandS.Gcd
import HandS.Wide
import HandS.IsInst
import HandS.Zip
import HandS.More
import HandS.Style
import HandS.Rev
import HandS.MapJoin
import HandS.StrMore
import HandS.WideBits
import HandS.TupMul
import HandS.Small
import PyProof.Rows.RegFStrParts
import HandS.Dict
import HandS.DictComp
import KE.KNest
import HandS.AnyAll
import HandS.EndTab
import HandS.GenOver
import HandS.Strs
import HandS.Flow
import HandS.TryOnly
import KE.KExcIs
import HandS.ExcInit
import HandS.ExcField
import HandS.ExcIs
import HandS.WordsExc
import HandS.ExcOwn
import KE.KTypeName
import OpenK.KCls
import HandS.Iter
import KE.KEqDict
import KE.KRevSl
import PySem.Challenge.RW_kettlerow_k34_loaves_knocked_out
set_option Elab.async false
set_option linter.all false
set_option maxRecDepth 100000
set_option maxHeartbeats 4000000
/-! ### own rules and words, of no law -/
namespace KR
open PySem PySem.Spec PyProof.Rows L2

/-- * of any two ints whose product is told to fit -/
theorem op_mulX {X : Cx} : OpR X (binaryOp .Mult) (rI IntMulOk fun i j => .int (i * j)) := opI fun _ _ _ _ _ _ _ hc q => mul_int q hc
/-- // by any divisor but 0, to some three thousand figures -/
def DivOk (_ j : Int) : Prop := j ≠ 0 ∧ j.natAbs.log2 < 9000
theorem op_fdivX {X : Cx} : OpR X (binaryOp .FloorDiv) (rI DivOk fun i j => .int (i.fdiv j)) := opI fun _ _ _ _ _ _ _ hc q => floordiv_int hc.1 q (.inl (PyProof.noPylong_of_log2 hc.2))
theorem mulL {i j : Int} (h : i.natAbs < 2 ^ 64) : IntMulOk i j := CMul.ok (.inl ⟨by omega, by omega⟩)
theorem mulR {i j : Int} (h : j.natAbs < 2 ^ 64) : IntMulOk i j := CMul.ok (.inr ⟨by omega, by omega⟩)
theorem mulW {i j : Int} {a b : Nat} (ha : i.natAbs < 2 ^ a) (hb : j.natAbs < 2 ^ b) (h0 : 0 < a) (h1 : 0 < b) (h : a + b ≤ 1000000) : IntMulOk i j := (wide_mul ha hb h0 h1 h).ok
theorem divOk {i j : Int} {b : Nat} (h : j ≠ 0) (hb : j.natAbs < 2 ^ b) (h0 : 0 < b) (h9 : b ≤ 9000) : DivOk i j := ⟨h, Nat.lt_of_lt_of_le (PySem.Flt.log2_lt_of h0 hb) h9⟩
theorem add_lt {i j : Int} {a : Nat} (ha : i.natAbs < 2 ^ a) (hb : j.natAbs < 2 ^ a) : (i + j).natAbs < 2 ^ (a + 1) := by
  rw [Nat.pow_succ]
  omega
theorem sub_lt {i j : Int} {a : Nat} (ha : i.natAbs < 2 ^ a) (hb : j.natAbs < 2 ^ a) : (i - j).natAbs < 2 ^ (a + 1) := by
  rw [Nat.pow_succ]
  omega
theorem lt_up {i : Int} {a b : Nat} (ha : i.natAbs < 2 ^ a) (h : a ≤ b) : i.natAbs < 2 ^ b := Nat.lt_of_lt_of_le ha (Nat.pow_le_pow_right (by decide) h)
theorem b40 {n : Nat} (h : n < 10 ^ 40) : n < 2 ^ 200 := Nat.lt_trans h (by decide)
theorem b41 {n : Nat} (h : n ≤ 10 ^ 41) : n < 2 ^ 200 := Nat.lt_of_le_of_lt h (by decide)
theorem bit_lt {c : Prop} [Decidable c] : (if c then (1 : Int) else 0).natAbs < 2 ^ 64 := by split <;> decide
theorem bit_nn {c : Prop} [Decidable c] : (0 : Int) ≤ (if c then (1 : Int) else 0) := by split <;> decide
theorem bit_or {c : Prop} [Decidable c] : (if c then (1 : Int) else 0) = 0 ∨ (if c then (1 : Int) else 0) = 1 := by split <;> simp
theorem small {n : Nat} (h : n ≤ 100000) : n ≤ sizeLine := Nat.le_trans h (by decide)
theorem small' {n : Nat} (h : n < 100000) : n < sizeLine := Nat.lt_of_lt_of_le h (by decide)

/-! the heap but for one object that is written -/
/-- all that was tracked but p is as it was -/
def Fr (p : Addr) (H H' : Hp) : Prop := ∀ b o, b ≠ p → H b = some o → H' b = some o
theorem Fr.refl {p : Addr} {H : Hp} : Fr p H H := fun _ _ _ h => h
theorem Fr.trans {p : Addr} {H H1 H2 : Hp} (a : Fr p H H1) (b : Fr p H1 H2) : Fr p H H2 := fun c o n h => b c o n (a c o n h)
theorem Fr.of {p : Addr} {H H1 : Hp} (a : Same H H1) : Fr p H H1 := fun c o _ h => a c o h
theorem same_new {H : Hp} {p : Addr} {o : HO} (h : H p = none) : Same H (upd H p o) := fun b x e => by
  rw [upd_ne (ne_of_none e h)]
  exact e
theorem Fr.new {p q : Addr} {H H1 : Hp} {o : HO} (a : Fr p H H1) (h : H1 q = none) : Fr p H (upd H1 q o) := a.trans (.of (same_new h))
theorem Fr.put {p : Addr} {H H1 : Hp} {o : HO} (a : Fr p H H1) : Fr p H (upd H1 p o) := fun c x n h => by
  rw [upd_ne n]
  exact a c x n h
theorem Fr.put' {p q : Addr} {H H1 : Hp} {o : HO} (a : Fr p H H1) (h : H q = none) : Fr p H (upd H1 q o) := fun c x n e => by
  rw [upd_ne (ne_of_none e h)]
  exact a c x n e
/-- what is new there was new ahead of it, if the written one stands -/
theorem Fr.free {p q : Addr} {H H1 : Hp} {o : HO} (a : Fr p H H1) (hp : H1 p = some o) (h : H1 q = none) : H q = none := by
  cases e : H q with
  | none => rfl
  | some u =>
    have n : q ≠ p := fun z => by
      rw [z, hp] at h
      cases h
    rw [a q u n e] at h
    cases h

/-! a reading may be asked for more than is wanted; displays whose new heap is a letter -/
def clA (t : TA) : TA := fun σ H Q => ∃ Q0 : List V → Hp → Prop, (∀ xs H1, Q0 xs H1 → Q xs H1) ∧ t σ H Q0
theorem pa_cl {X : Cx} {es : List Expr} {t : TA} (h : PA X es t) : PA X es (clA t) := ⟨fun pos pins s σ H Q I ⟨Q0, m, q⟩ =>
  thn (h.run pos pins s σ H Q0 I q) fun us s1 ⟨xs, H1, I1, r, z⟩ => ⟨xs, H1, I1, r, m _ _ z⟩⟩
def tTupI (t : TA) : TE := fun σ H Q => t σ H fun xs H1 => Nat.ble xs.length 100000 = true ∧ ∀ p H', Same H1 H' → H1 p = none → H' p = some (.tup xs) → Q (.ref p) H'
def tLstI (t : TA) : TE := fun σ H Q => t σ H fun xs H1 => Nat.ble xs.length 100000 = true ∧ ∀ p H', Same H1 H' → H1 p = none → H' p = some (.lst xs) → Q (.ref p) H'
theorem pe_tupI {X : Cx} {es : List Expr} {k : Nat} {pos : Pos} {t : TA} (h : PA X es t) : PE X (.Tuple es k pos) (tTupI t) := ⟨fun pins s σ H Q I q =>
  (pe_tup (pa_cl h)).run pins s σ H Q I ⟨_, fun _ _ ⟨z, w⟩ => ⟨small (Nat.le_of_ble_eq_true z), fun p hp => w p _ (same_new hp) hp upd_same⟩, q⟩⟩
theorem pe_lstI {X : Cx} {es : List Expr} {pos : Pos} {t : TA} (h : PA X es t) : PE X (.List es pos) (tLstI t) := ⟨fun pins s σ H Q I q =>
  (pe_lst (pa_cl h)).run pins s σ H Q I ⟨_, fun _ _ ⟨z, w⟩ => ⟨small (Nat.le_of_ble_eq_true z), fun p hp => w p _ (same_new hp) hp upd_same⟩, q⟩⟩
/-- ways that join behind a statement: R is what they come to -/
def tJ (t : TS) : TS := fun D σ H => ∃ R : L2.St → Hp → Prop, (∀ σ' H', R σ' H' → D.nx σ' H') ∧ t { D with nx := R } σ H
theorem ps_J {X : Cx} {st : Stmt} {t : TS} (h : PS X st t) : PS X st (tJ t) := ⟨fun pins s σ H D I ⟨R, m, q⟩ => thn (h.run pins s σ H { D with nx := R } I q) fun f s1 z =>
  match f, z with
  | .next, ⟨σ', H', J, r⟩ => ⟨σ', H', J, m _ _ r⟩
  | .ret _, z => z
  | .brk, z => z
  | .cont, z => z⟩
theorem ite_bT {b : Bool} {A B : Prop} (h : b = true) (q : A) : if b = true then A else B := by
  rw [if_pos h]
  exact q
theorem ite_bF {b : Bool} {A B : Prop} (h : b = false) (q : B) : if b = true then A else B := by
  rw [if_neg (by rw [h]; exact Bool.false_ne_true)]
  exact q
theorem ite_iT {i j : Int} {A B : Prop} (h : i = j) (q : A) : if decide (V.int i = V.int j) = true then A else B := by
  rw [if_pos (decide_eq_true (congrArg V.int h))]
  exact q
theorem ite_iF {i j : Int} {A B : Prop} (h : i ≠ j) (q : B) : if decide (V.int i = V.int j) = true then A else B := by
  rw [if_neg (by rw [decide_eq_false fun z => h (V.int.inj z)]; exact Bool.false_ne_true)]
  exact q
theorem ite_nT {i j : Int} {A B : Prop} (h : i ≠ j) (q : A) : if (!decide (V.int i = V.int j)) = true then A else B := by
  rw [if_pos (by rw [decide_eq_false fun z => h (V.int.inj z)] <;> rfl)]
  exact q
theorem ite_nF {i j : Int} {A B : Prop} (h : i = j) (q : B) : if (!decide (V.int i = V.int j)) = true then A else B := by
  rw [if_neg (by rw [decide_eq_true (congrArg V.int h)]; exact Bool.false_ne_true)]
  exact q
/-- the law's box of draws: n is more than have been mixed -/
def BoxAt (H : Hp) (p : Addr) (n : Nat) : Prop := ∃ a b c : Int, H p = some (.lst [.int a, .int b, .int c]) ∧ 0 ≤ a ∧ 0 ≤ b ∧ b < 2 ^ 62 ∧ 0 ≤ c ∧ c ≤ (n : Int)
theorem BoxAt.mono {H : Hp} {p : Addr} {n m : Nat} (h : BoxAt H p n) (le : n ≤ m) : BoxAt H p m := by
  obtain ⟨a, b, c, h1, h2, h3, h4, h5, h6⟩ := h
  exact ⟨a, b, c, h1, h2, h3, h4, h5, by omega⟩
theorem BoxAt.same {H H' : Hp} {p : Addr} {n : Nat} (h : BoxAt H p n) (s : Same H H') : BoxAt H' p n := by
  obtain ⟨a, b, c, h1, h2⟩ := h
  exact ⟨a, b, c, s _ _ h1, h2⟩
theorem BoxAt.ne {H : Hp} {p q : Addr} {n : Nat} {xs : List V} (h : BoxAt H p n) (t : H q = some (.tup xs)) : q ≠ p := by
  obtain ⟨a, b, c, h1, _⟩ := h
  exact ne_of t h1 (by intro z; cases z)
theorem BoxAt.some {H : Hp} {p : Addr} {n : Nat} (h : BoxAt H p n) : ∃ o, H p = some o := by
  obtain ⟨a, b, c, h1, _⟩ := h
  exact ⟨_, h1⟩
/-- a tuple stays -/
theorem Fr.tup {p q : Addr} {H H1 : Hp} {n : Nat} {xs : List V} (a : Fr p H H1) (hb : BoxAt H p n) (t : H q = some (.tup xs)) : H1 q = some (.tup xs) := a q _ (hb.ne t) t
/-- a pair of ints -/
def PrAt (H : Hp) (q : Addr) (t b : Int) : Prop := H q = some (.tup [.int t, .int b])
theorem at0 {x : V} {xs : List V} : atI (x :: xs) 0 = some x := atI_nat (j := 0) rfl
theorem at1 {x y : V} {xs : List V} : atI (x :: y :: xs) 1 = some y := atI_nat (j := 1) rfl
theorem at2 {x y z : V} {xs : List V} : atI (x :: y :: z :: xs) 2 = some z := atI_nat (j := 2) rfl

/-! fractions -/
/-- the law's own lowest terms -/
def low (t b : Int) : Int × Int := (t / (Nat.gcd t.natAbs b.natAbs : Nat) * (if b < 0 then -1 else 1), (b.natAbs : Int) / (Nat.gcd t.natAbs b.natAbs : Nat))
structure IsLow (t b : Int) : Prop where
  pos : 0 < b
  cop : Nat.gcd t.natAbs b.natAbs = 1
theorem dvd_mul {a b : Int} (h : a ∣ b) : a * (b / a) = b := Int.mul_ediv_cancel' h
theorem low_facts (t b : Int) (hb : b ≠ 0) : IsLow (low t b).1 (low t b).2 ∧ t * (low t b).2 = (low t b).1 * b := by
  have hg : 0 < Nat.gcd t.natAbs b.natAbs := Nat.gcd_pos_of_pos_right _ (by omega)
  generalize e : Nat.gcd t.natAbs b.natAbs = g at hg
  have d1 : g ∣ t.natAbs := e ▸ Nat.gcd_dvd_left _ _
  have d2 : g ∣ b.natAbs := e ▸ Nat.gcd_dvd_right _ _
  obtain ⟨x, hx⟩ := d1
  obtain ⟨y, hy⟩ := d2
  have hc : Nat.gcd x y = 1 := by
    rw [hx, hy, Nat.gcd_mul_left] at e
    exact Nat.eq_of_mul_eq_mul_left hg (by rw [e, Nat.mul_one])
  have hy0 : 0 < y := by
    rcases Nat.eq_zero_or_pos y with z | z
    · rw [z, Nat.mul_zero] at hy
      omega
    · exact z
  have h2 : (low t b).2 = (y : Int) := by
    show (b.natAbs : Int) / (Nat.gcd t.natAbs b.natAbs : Nat) = (y : Int)
    rw [e, hy, Int.natCast_mul]
    exact Int.mul_ediv_cancel_left _ (by omega)
  have ht : t = (g : Int) * x ∨ t = -((g : Int) * x) := by
    have q : (t.natAbs : Int) = (g : Int) * x := by rw [hx, Int.natCast_mul]
    omega
  have hbb : (b.natAbs : Int) = (g : Int) * y := by rw [hy, Int.natCast_mul]
  have h1 : (low t b).1 = (t / (g : Int)) * (if b < 0 then -1 else 1) := by
    show t / (Nat.gcd t.natAbs b.natAbs : Nat) * (if b < 0 then -1 else 1) = _
    rw [e]
  have h3 : t / (g : Int) = x ∨ t / (g : Int) = -(x : Int) := by
    rcases ht with q | q
    · left
      rw [q]
      exact Int.mul_ediv_cancel_left _ (by omega)
    · right
      rw [q, ← Int.mul_neg]
      exact Int.mul_ediv_cancel_left _ (by omega)
  have h4 : (g : Int) * (t / (g : Int)) = t := dvd_mul (by
    rcases ht with q | q
    · exact ⟨x, q⟩
    · exact ⟨-x, by rw [q, Int.mul_neg]⟩)
  refine ⟨⟨by rw [h2]; omega, ?_⟩, ?_⟩
  · rw [h2, h1]
    have q : ((t / (g : Int)) * (if b < 0 then -1 else 1)).natAbs = x := by
      split <;> rcases h3 with z | z <;> rw [z] <;> omega
    rw [q]
    exact hc
  · rw [h2, h1]
    by_cases c : b < 0
    · rw [if_pos c]
      have q : b = -((g : Int) * y) := by omega
      grind
    · rw [if_neg c]
      have q : b = (g : Int) * y := by omega
      grind
theorem low_pos (t b : Int) (hb : b ≠ 0) : 0 < (low t b).2 := (low_facts t b hb).1.pos
/-- two fractions in lowest terms that are alike across are one -/
theorem isLow_uniq {x y u v : Int} (h : IsLow x y) (k : IsLow u v) (e : x * v = u * y) : x = u ∧ y = v := by
  have h1 := h.pos
  have k1 := k.pos
  have e1 : x.natAbs * v.natAbs = u.natAbs * y.natAbs := by rw [← Int.natAbs_mul, ← Int.natAbs_mul, e]
  have d1 : y.natAbs ∣ v.natAbs := (Nat.Coprime.symm h.cop).dvd_of_dvd_mul_left (by rw [e1]; exact Nat.dvd_mul_left _ _)
  have d2 : v.natAbs ∣ y.natAbs := (Nat.Coprime.symm k.cop).dvd_of_dvd_mul_left (by rw [← e1]; exact Nat.dvd_mul_left _ _)
  have e2 : y.natAbs = v.natAbs := Nat.dvd_antisymm d1 d2
  have e3 : y = v := by omega
  subst e3
  exact ⟨Int.eq_of_mul_eq_mul_right (by omega) e, rfl⟩
theorem low_eq {t b x y : Int} (hb : b ≠ 0) (h : IsLow x y) (e : t * y = x * b) : low t b = (x, y) := by
  obtain ⟨h1, h2⟩ := low_facts t b hb
  have q : (low t b).1 * y = x * (low t b).2 := by
    have z : b * ((low t b).1 * y) = b * (x * (low t b).2) := by grind
    exact Int.eq_of_mul_eq_mul_left hb z
  obtain ⟨a1, a2⟩ := isLow_uniq h1 h q
  exact Prod.ext a1 a2
theorem low_id {t b : Int} (h : IsLow t b) : low t b = (t, b) := low_eq (by have := h.pos; omega) h rfl
theorem low_le (t b : Int) : (low t b).1.natAbs ≤ t.natAbs ∧ (low t b).2.natAbs ≤ b.natAbs := by
  generalize e : Nat.gcd t.natAbs b.natAbs = g
  have h1 : (low t b).1 = (t / (g : Int)) * (if b < 0 then -1 else 1) := by
    show t / (Nat.gcd t.natAbs b.natAbs : Nat) * (if b < 0 then -1 else 1) = _
    rw [e]
  have h2 : (low t b).2 = (b.natAbs : Int) / (g : Int) := by
    show (b.natAbs : Int) / (Nat.gcd t.natAbs b.natAbs : Nat) = _
    rw [e]
  have d1 : (g : Int) ∣ t := e ▸ Int.ofNat_dvd_left.mpr (Nat.gcd_dvd_left _ _)
  constructor
  · rw [h1]
    have q : (t / (g : Int) * (if b < 0 then -1 else 1)).natAbs = (t / (g : Int)).natAbs := by
      split <;> omega
    rw [q]
    obtain ⟨z, rfl⟩ := d1
    by_cases c : (g : Int) = 0
    · rw [c, Int.zero_mul, Int.zero_ediv]
      omega
    · rw [Int.mul_ediv_cancel_left _ c, Int.natAbs_mul]
      exact Nat.le_mul_of_pos_left _ (by omega)
  · rw [h2, ← Int.natCast_ediv, Int.natAbs_natCast]
    exact Nat.div_le_self _ _
theorem low_lt {t b : Int} {n : Nat} (h1 : t.natAbs < 2 ^ n) (h2 : b.natAbs < 2 ^ n) : (low t b).1.natAbs < 2 ^ n ∧ (low t b).2.natAbs < 2 ^ n :=
  ⟨Nat.lt_of_le_of_lt (low_le t b).1 h1, Nat.lt_of_le_of_lt (low_le t b).2 h2⟩
/-- a fraction in lowest terms, of fewer than sixty figures -/
structure FrAt (H : Hp) (x : Addr) (a b : Int) : Prop where
  at_ : H x = some (.tup [.int a, .int b])
  low : IsLow a b
  ta : a.natAbs < 2 ^ 200
  tb : b.natAbs < 2 ^ 200
theorem FrAt.same {H H' : Hp} {x : Addr} {a b : Int} (h : FrAt H x a b) (s : Same H H') : FrAt H' x a b := ⟨s _ _ h.at_, h.low, h.ta, h.tb⟩
theorem FrAt.fr {H H' : Hp} {x p : Addr} {a b : Int} {n : Nat} (h : FrAt H x a b) (B : BoxAt H p n) (f : Fr p H H') : FrAt H' x a b := ⟨f.tup B h.at_, h.low, h.ta, h.tb⟩
/-- a new pair of two numbers' lowest terms -/
def sp_low : Sp := fun vs H Q _ => ∃ t b : Int, vs = [.int t, .int b] ∧ b ≠ 0 ∧ t.natAbs < 2 ^ 2000 ∧ b.natAbs < 2 ^ 2000 ∧ ∀ p H', Same H H' → H p = none → H' p = some (.tup [.int (low t b).1, .int (low t b).2]) → Q (.ref p) H'
/-- two pairs in, low of what f and g say of them out -/
def sp_two (K : PySem.W.Frag) (f g : Int → Int → Int → Int → Int) : Sp := fun vs H Q _ => ∃ (x y : Addr) (a b c d : Int), vs = [.ref x, .ref y] ∧ SqT K H x [.int a, .int b] ∧ SqT K H y [.int c, .int d] ∧ g a b c d ≠ 0 ∧ a.natAbs < 2 ^ 900 ∧ b.natAbs < 2 ^ 900 ∧ c.natAbs < 2 ^ 900 ∧ d.natAbs < 2 ^ 900 ∧
  ∀ p H', Same H H' → H p = none → H' p = some (.tup [.int (low (f a b c d) (g a b c d)).1, .int (low (f a b c d) (g a b c d)).2]) → Q (.ref p) H'
/-- by a divisor turned about -/
theorem fdiv_neg {t g : Int} (h : g ∣ t) : t.fdiv (-g) = t / g * -1 := by
  obtain ⟨z, rfl⟩ := h
  by_cases c : g = 0
  · subst c
    simp
  · rw [Int.mul_ediv_cancel_left _ c, show g * z = (-g) * (-z) by grind, Int.mul_fdiv_cancel_left _ (by omega)]
    omega

/-! data of the law's own making, n deep -/
theorem Same.put {H0 H : Hp} {D : Addr} {o : HO} (s : Same H0 H) (h : H0 D = none) : Same H0 (upd H D o) := fun b u e => by
  rw [upd_ne (ne_of_none e h)]
  exact s b u e
inductive Dt (H : Hp) : Nat → V → PyData → Prop
  | non (n : Nat) : Dt H (n + 1) .non .none
  | bl (n : Nat) (b : Bool) : Dt H (n + 1) (.bl b) (.bool b)
  | int (n : Nat) (i : Int) : Dt H (n + 1) (.int i) (.int i)
  | str (n : Nat) (x : Str) (ok : PyData.canLay0 (.str x) = true) : Dt H (n + 1) (.str x) (.str x)
  | lst {n : Nat} {a : Addr} {xs : List V} {ds : List PyData} : H a = some (.lst xs) → xs.length = ds.length → xs.length ≤ 100000 → (∀ (i : Nat) (x : V) (d : PyData), xs[i]? = some x → ds[i]? = some d → Dt H n x d) → Dt H (n + 1) (.ref a) (.list ds)
  | tup {n : Nat} {a : Addr} {xs : List V} {ds : List PyData} : H a = some (.tup xs) → xs.length = ds.length → xs.length ≤ 100000 → (∀ (i : Nat) (x : V) (d : PyData), xs[i]? = some x → ds[i]? = some d → Dt H n x d) → Dt H (n + 1) (.ref a) (.tuple ds)
theorem Dt.same {H H' : Hp} (s : Same H H') : ∀ {n : Nat} {v : V} {d : PyData}, Dt H n v d → Dt H' n v d := by
  intro n v d h
  induction h with
  | non n => exact .non n
  | bl n b => exact .bl n b
  | int n i => exact .int n i
  | str n x ok => exact .str n x ok
  | lst h1 h2 h3 _ ih => exact .lst (s _ _ h1) h2 h3 ih
  | tup h1 h2 h3 _ ih => exact .tup (s _ _ h1) h2 h3 ih
theorem Dt.up {H : Hp} {n m : Nat} {v : V} {d : PyData} (h : Dt H n v d) : n ≤ m → Dt H m v d := by
  intro le
  induction h generalizing m with
  | non n => obtain ⟨k, rfl⟩ : ∃ k, m = k + 1 := ⟨m - 1, by omega⟩; exact .non k
  | bl n b => obtain ⟨k, rfl⟩ : ∃ k, m = k + 1 := ⟨m - 1, by omega⟩; exact .bl k b
  | int n i => obtain ⟨k, rfl⟩ : ∃ k, m = k + 1 := ⟨m - 1, by omega⟩; exact .int k i
  | str n x ok => obtain ⟨k, rfl⟩ : ∃ k, m = k + 1 := ⟨m - 1, by omega⟩; exact .str k x ok
  | lst h1 h2 h3 _ ih => obtain ⟨k, rfl⟩ : ∃ k, m = k + 1 := ⟨m - 1, by omega⟩; exact .lst h1 h2 h3 fun i x d a b => ih i x d a b (by omega)
  | tup h1 h2 h3 _ ih => obtain ⟨k, rfl⟩ : ∃ k, m = k + 1 := ⟨m - 1, by omega⟩; exact .tup h1 h2 h3 fun i x d a b => ih i x d a b (by omega)
theorem Dt.tup2 {H : Hp} {n : Nat} {a : Addr} {x y : V} {d e : PyData} (h : H a = some (.tup [x, y])) (h1 : Dt H n x d) (h2 : Dt H n y e) : Dt H (n + 1) (.ref a) (.tuple [d, e]) :=
  .tup h rfl (by show 2 ≤ 100000; decide) fun i u v hu hv => match i, hu, hv with
    | 0, hu, hv => by cases hu; cases hv; exact h1
    | 1, hu, hv => by cases hu; cases hv; exact h2
    | i + 2, hu, _ => by simp at hu
theorem Dt.pair {H : Hp} {a : Addr} {t b : Int} (h : H a = some (.tup [.int t, .int b])) : Dt H 2 (.ref a) (.tuple [.int t, .int b]) := .tup2 h (.int 0 t) (.int 0 b)
theorem Dt.lst2 {H : Hp} {n : Nat} {a : Addr} {x y : V} {d e : PyData} (h : H a = some (.lst [x, y])) (h1 : Dt H n x d) (h2 : Dt H n y e) : Dt H (n + 1) (.ref a) (.list [d, e]) :=
  .lst h rfl (by show 2 ≤ 100000; decide) fun i u v hu hv => match i, hu, hv with
    | 0, hu, hv => by cases hu; cases hv; exact h1
    | 1, hu, hv => by cases hu; cases hv; exact h2
    | i + 2, hu, _ => by simp at hu
theorem Dt.lst3 {H : Hp} {n : Nat} {a : Addr} {x y z : V} {d e f : PyData} (h : H a = some (.lst [x, y, z])) (h1 : Dt H n x d) (h2 : Dt H n y e) (h3 : Dt H n z f) : Dt H (n + 1) (.ref a) (.list [d, e, f]) :=
  .lst h rfl (by show 3 ≤ 100000; decide) fun i u v hu hv => match i, hu, hv with
    | 0, hu, hv => by cases hu; cases hv; exact h1
    | 1, hu, hv => by cases hu; cases hv; exact h2
    | 2, hu, hv => by cases hu; cases hv; exact h3
    | i + 3, hu, _ => by simp at hu
/-- a comprehension over pairs: J hands out a new tuple of px i and py i at each of n turns, while St stands -/
theorem lc_pair {J : It} {n : Nat} {St : Hp → Prop} {px py : Nat → V} (hgo : ∀ i H, i < n → St H → J.go i H) (hst : ∀ H, St H → J.stop n H)
    (hy : ∀ i H v H', i < n → St H → J.yld i H v H' → ∃ T, v = .ref T ∧ H T = none ∧ H' = upd H T (.tup [px i, py i]))
    {g : TG} {tt : TT} {te : TE} {vs : List Nat} {σ : L2.St} {H1 : Hp} {D : Addr} {Qd : Hp → Prop} (Pv : Nat → Hp → Prop) (h0 : Pv 0 (upd H1 D (.lst []))) (hq : ∀ i H, i ≤ n → Pv i H → St H)
    (hs : ∀ i T H, i < n → Pv i H → H T = none → g (.ref T) (wipe σ vs) (upd H T (.tup [px i, py i])) fun σ2 H2 => wipe σ2 vs = wipe σ vs ∧ tt σ2 H2 fun b H3 =>
      if b = true then te σ2 H3 fun y H4 => ∃ acc, H4 D = some (.lst acc) ∧ acc.length < sizeLine ∧ Pv (i + 1) (upd H4 D (.lst (acc ++ [y]))) else Pv (i + 1) H3) (hd : ∀ H, Pv n H → Qd H) :
    ∃ W : Nat → Nat → Hp → Prop, (∃ m, W 0 m (upd H1 D (.lst []))) ∧ ∀ i m H, W i m H →
      (J.stop i H ∧ Qd H) ∨ (J.go i H ∧ ∃ Nx : Hp → Prop, (∀ H', Nx H' → ∃ m', m' < m ∧ W (i + 1) m' H') ∧ ∀ x H', J.yld i H x H' → g x (wipe σ vs) H' fun σ2 H2 => wipe σ2 vs = wipe σ vs ∧ tt σ2 H2 fun b H3 =>
        if b = true then te σ2 H3 fun y H4 => ∃ acc, H4 D = some (.lst acc) ∧ acc.length < sizeLine ∧ Nx (upd H4 D (.lst (acc ++ [y]))) else Nx H3) := by
  refine ⟨fun i m H => i + m = n ∧ Pv i H, ⟨n, by omega, h0⟩, fun i m H w => ?_⟩
  obtain ⟨e, p⟩ := w
  have q := hq i H (by omega) p
  rcases Nat.lt_or_ge i n with lt | ge
  · refine Or.inr ⟨hgo i H lt q, Pv (i + 1), fun H' p' => ⟨m - 1, by omega, by omega, p'⟩, fun x H' y => ?_⟩
    obtain ⟨T, rfl, nT, rfl⟩ := hy i H x H' lt q y
    exact hs i T H lt p nT
  · obtain rfl : i = n := by omega
    exact Or.inl ⟨hst H q, hd H p⟩
theorem zipL_go {K : PySem.W.Frag} {a b : Addr} {xs ys : List V} {n : Nat} (h1 : xs.length = n) (h2 : ys.length = n) {i : Nat} {H : Hp} (lt : i < n) (q : SqL K H a xs ∧ SqL K H b ys) : (Itz K a b).go i H :=
  ⟨xs, ys, _, _, q.1, q.2, List.getElem?_eq_getElem (by omega), List.getElem?_eq_getElem (by omega)⟩
theorem zipL_stop {K : PySem.W.Frag} {a b : Addr} {xs ys : List V} {n : Nat} (h1 : xs.length = n) {H : Hp} (q : SqL K H a xs ∧ SqL K H b ys) : (Itz K a b).stop n H := ⟨xs, ys, q.1, q.2, .inl (by omega)⟩
theorem zipL_yld {K : PySem.W.Frag} {a b : Addr} {xs ys : List V} {n : Nat} (h1 : xs.length = n) (h2 : ys.length = n) {i : Nat} {H H' : Hp} {v : V} (lt : i < n) (q : SqL K H a xs ∧ SqL K H b ys) (y : (Itz K a b).yld i H v H') :
    ∃ T, v = .ref T ∧ H T = none ∧ H' = upd H T (.tup [xs.getD i .non, ys.getD i .non]) := by
  obtain ⟨T, x, y, rfl, nT, rfl, f1, f2⟩ := y
  refine ⟨T, rfl, nT, ?_⟩
  rw [List.getD_eq_getElem?_getD, List.getD_eq_getElem?_getD, f1 _ q.1, f2 _ q.2] <;> rfl
theorem zipT_go {K : PySem.W.Frag} {a b : Addr} {xs ys : List V} {n : Nat} (h1 : xs.length = n) (h2 : ys.length = n) {i : Nat} {H : Hp} (lt : i < n) (q : SqT K H a xs ∧ SqT K H b ys) : (RZ.ItzT K a b).go i H :=
  ⟨xs, ys, _, _, q.1, q.2, List.getElem?_eq_getElem (by omega), List.getElem?_eq_getElem (by omega)⟩
theorem zipT_stop {K : PySem.W.Frag} {a b : Addr} {xs ys : List V} {n : Nat} (h1 : xs.length = n) {H : Hp} (q : SqT K H a xs ∧ SqT K H b ys) : (RZ.ItzT K a b).stop n H := ⟨xs, ys, q.1, q.2, .inl (by omega)⟩
theorem zipT_yld {K : PySem.W.Frag} {a b : Addr} {xs ys : List V} {n : Nat} (h1 : xs.length = n) (h2 : ys.length = n) {i : Nat} {H H' : Hp} {v : V} (lt : i < n) (q : SqT K H a xs ∧ SqT K H b ys) (y : (RZ.ItzT K a b).yld i H v H') :
    ∃ T, v = .ref T ∧ H T = none ∧ H' = upd H T (.tup [xs.getD i .non, ys.getD i .non]) := by
  obtain ⟨T, x, y, rfl, nT, rfl, f1, f2⟩ := y
  refine ⟨T, rfl, nT, ?_⟩
  rw [List.getD_eq_getElem?_getD, List.getD_eq_getElem?_getD, f1 _ q.1, f2 _ q.2] <;> rfl
theorem getD_of {xs : List V} {i : Nat} (h : i < xs.length) : xs[i]? = some (xs.getD i .non) := by
  rw [List.getD_eq_getElem?_getD, List.getElem?_eq_getElem h] <;> rfl
theorem yesT {σ : L2.St} {H : Hp} {A B : Hp → Prop} (h : A H) : tYes σ H fun b H3 => if b = true then A H3 else B H3 := iteT (A := A H) (B := B H) h
/-- True so often -/
theorem all_true (n : Nat) : (List.replicate n true).map V.bl = List.replicate n (V.bl true) ∧ (List.replicate n true).all id = true := by
  refine ⟨List.map_replicate, ?_⟩
  induction n with
  | zero => rfl
  | succ n ih => rw [List.replicate_succ, List.all_cons, ih] <;> rfl

/-- a def of the text, where it stands and how it is called -/
structure Def (K : PySem.W.Frag) (mg : Str → Option Value) (name : Str) (st : Stmt) (f : Addr) (fd : FuncData) (ps : List Str) : Prop where
  fn : Fun K name name st f fd
  mg : mg name = some (.ref f)
  b : Binds K fd ps []
/-! rules whose written part is a letter -/
section
variable {X : Cx} {K : PySem.W.Frag}
theorem ixL (h : X.K = K) : IxR X (rIxL K) := h ▸ ix_list
theorem ixT (h : X.K = K) : IxR X (rIxT K) := h ▸ ix_tup
theorem ixQ (h : X.K = K) : IxR X (rIx K) := h ▸ ix_seq
def rLenQ (K : PySem.W.Frag) : List V → Hp → VK → Prop := fun xs H Q => ∃ p ys, xs = [.ref p] ∧ (SqL K H p ys ∨ SqT K H p ys) ∧ Q (.int (ys.length : Nat)) H
theorem lenQ (h : X.K = K) : CallR X (.builtin "len") (rLenQ K) := h ▸ call_len_seq
def rLenA (K : PySem.W.Frag) : List V → Hp → VK → Prop := fun xs H Q => ∃ x n, xs = [x] ∧ LenV K x H n ∧ Q (.int (n : Nat)) H
theorem lenA (h : X.K = K) : CallR X (.builtin "len") (rLenA K) := h ▸ call_len
theorem isiK (h : X.K = K) : CallR X (.builtin "isinstance") (rIsi K) := h ▸ call_isi
theorem isiTK (h : X.K = K) : CallR X (.builtin "isinstance") (rIsiT K) := h ▸ call_isiT
theorem allK (h : X.K = K) (hc : X.calm = true) : CallR X (.builtin "all") (rAll K) := h ▸ cr_all hc
theorem anyK (h : X.K = K) (hc : X.calm = true) : CallR X (.builtin "any") (rAny K) := h ▸ cr_any hc
theorem sumK (h : X.K = K) (hc : X.calm = true) : CallR X (.builtin "sum") (rSum K) := h ▸ cr_sum hc
theorem eqDK (h : X.K = K) (hu : X.A.units + 64 < cLine) : OpR X (compareOp .Eq) (rEqD K) := h ▸ op_eqD hu
theorem neDK (h : X.K = K) (hu : X.A.units + 64 < cLine) : OpR X (compareOp .NotEq) (rNeD K) := h ▸ op_neD hu
theorem inQ (h : X.K = K) : OpR X (compareOp .In) (rIn K false) := h ▸ op_in_seq
theorem notInQ (h : X.K = K) : OpR X (compareOp .NotIn) (rIn K true) := h ▸ op_notIn_seq
theorem pi_listK {tg l : Expr} {tl : TE} (h : X.K = K) (hl : PE X l tl) : PI X tg l (iList K tl) := h ▸ pi_list hl
theorem pi_tupK {tg l : Expr} {tl : TE} (h : X.K = K) (hl : PE X l tl) : PI X tg l (iTup K tl) := h ▸ pi_tup hl
theorem pi_zipK {e e2 : Expr} {ta : TA} {p pos tpos : Pos} {elts : List Expr} {kk : Nat} (h : X.K = K) (hg : Gl X "zip") (hm : X.mg "zip" = none) (ha : PA X [e, e2] ta)
    (hs : starEach [e, e2] X.env = (false, eval e X.env) :: starEach [e2] X.env := by rfl) (hpl : (backTo pos (starEach [e2] X.env)).any (·.1) = false := by rfl) :
    PI X (.Tuple elts kk tpos) (.Call (.Name "zip" p) [e, e2] [] pos) (RZ.iZipA K ta) := h ▸ RZ.pi_zipA hg hm ha hs hpl
theorem pi_enumK {e : Expr} {ta : TA} {p pos tpos : Pos} {elts : List Expr} {kk : Nat} (h : X.K = K) (hg : Gl X "enumerate") (hm : X.mg "enumerate" = none) (ha : PA X [e] ta) (hs : starEach [e] X.env = [(false, eval e X.env)] := by rfl) :
    PI X (.Tuple elts kk tpos) (.Call (.Name "enumerate" p) [e] [] pos) (iEnum K ta) := h ▸ pi_enum hg hm ha hs
theorem pg_tupK {es : List Expr} {k : Nat} {pos : Pos} {t : TGs} {n : Nat} (h : X.K = K) (hc : X.calm = true) (ht : PGs X es t) (hn : (assignEach es X.env).length = n := by rfl) (hst : (assignEach es X.env).findIdx? (·.1) = none := by rfl) :
    PG X (.Tuple es k pos) (gTup K n t) := h ▸ pg_tup hc ht hn hst
/-- a new slice, a new list of what a thing holds -/
def rSlLI (K : PySem.W.Frag) : V → Option Int → Option Int → Hp → VK → Prop := fun x lo hi H Q => ∃ a xs, x = .ref a ∧ SqL K H a xs ∧ ∀ p H', Same H H' → H p = none → H' p = some (.lst (cutV xs lo hi)) → Q (.ref p) H'
theorem slL (h : X.K = K) : SlR X (rSlLI K) := fun pins s σ H x v vl vu lo hi sl Q I rx hs pl pu ⟨a, xs, e, q, k⟩ =>
  sl_list pins s σ H x v vl vu lo hi sl Q I rx hs pl pu ⟨a, xs, e, h ▸ q, fun p hp => k p _ (same_new hp) hp upd_same⟩
def rListI (K : PySem.W.Frag) : List V → Hp → VK → Prop := fun xs H Q => ∃ p ys, xs = [.ref p] ∧ (SqL K H p ys ∨ SqT K H p ys) ∧ ∀ l H', Same H H' → H l = none → H' l = some (.lst ys) → Q (.ref l) H'
theorem listI (h : X.K = K) : CallR X (.type "list") (rListI K) := fun pins s σ H xs us Q I r ⟨p, ys, e, q, k⟩ =>
  call_list_of pins s σ H xs us Q I r ⟨p, ys, e, h ▸ q, fun l hl => k l _ (same_new hl) hl upd_same⟩
end
/-! lists of fractions: addresses, tops, bottoms -/
abbrev Fq := Addr × Int × Int
def refs (l : List Fq) : List V := l.map fun z => V.ref z.1
def dat (z : Fq) : PyData := .tuple [.int z.2.1, .int z.2.2]
structure FqAt (H : Hp) (n : Nat) (z : Fq) : Prop where
  at_ : H z.1 = some (.tup [.int z.2.1, .int z.2.2])
  low : IsLow z.2.1 z.2.2
  ta : z.2.1.natAbs ≤ 10 ^ 41 + n
  tb : z.2.2.natAbs ≤ 10 ^ 41 + n
def FrL (H : Hp) (n : Nat) (l : List Fq) : Prop := ∀ z ∈ l, FqAt H n z
theorem FqAt.fr {H H' : Hp} {p : Addr} {n m k : Nat} {z : Fq} (h : FqAt H n z) (B : BoxAt H p m) (f : Fr p H H') (le : n ≤ k) : FqAt H' k z := ⟨f.tup B h.at_, h.low, by have := h.ta; omega, by have := h.tb; omega⟩
theorem FqAt.same {H H' : Hp} {n : Nat} {z : Fq} (h : FqAt H n z) (s : Same H H') : FqAt H' n z := ⟨s _ _ h.at_, h.low, h.ta, h.tb⟩
theorem FrL.fr {H H' : Hp} {p : Addr} {n m k : Nat} {l : List Fq} (h : FrL H n l) (B : BoxAt H p m) (f : Fr p H H') (le : n ≤ k) : FrL H' k l := fun z hz => (h z hz).fr B f le
theorem FrL.same {H H' : Hp} {n : Nat} {l : List Fq} (h : FrL H n l) (s : Same H H') : FrL H' n l := fun z hz => (h z hz).same s
theorem FqAt.wide {H : Hp} {n : Nat} {z : Fq} (h : FqAt H n z) (le : n ≤ 1000) : z.2.1.natAbs < 2 ^ 200 ∧ z.2.2.natAbs < 2 ^ 200 := by
  have h1 := h.ta
  have h2 := h.tb
  have e : 10 ^ 41 + 1000 < 2 ^ 200 := by decide
  omega
theorem refs_len (l : List Fq) : (refs l).length = l.length := List.length_map _
theorem refs_get {l : List Fq} {i : Nat} {z : Fq} (h : l[i]? = some z) : (refs l)[i]? = some (.ref z.1) := by
  unfold refs
  rw [List.getElem?_map, h] <;> rfl
theorem refs_of {l : List Fq} {i : Nat} {x : V} (h : (refs l)[i]? = some x) : ∃ z, l[i]? = some z ∧ x = .ref z.1 := by
  unfold refs at h
  rw [List.getElem?_map] at h
  cases e : l[i]? with
  | none =>
    rw [e] at h
    cases h
  | some z =>
    rw [e] at h
    exact ⟨z, rfl, (Option.some.inj h).symm⟩
theorem dp_pair {K : PySem.W.Frag} {H : Hp} {a : Addr} {t b : Int} (h : H a = some (.tup [.int t, .int b])) : Dp K H (.ref a) (.tuple [.int t, .int b]) := .tup (SqT.of h) (.cons (.int _) (.cons (.int _) .nil))
theorem FrL.dps {K : PySem.W.Frag} {H : Hp} {n : Nat} : ∀ {l : List Fq}, FrL H n l → DpAll K H (refs l) (l.map dat)
  | [], _ => .nil
  | z :: r, h => .cons (dp_pair (h z List.mem_cons_self).at_) (FrL.dps fun y hy => h y (List.mem_cons_of_mem _ hy))
theorem dats_lay (l : List Fq) : PyData.canLayAll0 (l.map dat) = true ∧ PyData.depthAll (l.map dat) ≤ 1 := by
  induction l with
  | nil => exact ⟨rfl, by decide⟩
  | cons z r ih =>
    refine ⟨?_, ?_⟩
    · show (PyData.canLay0 (dat z) && PyData.canLayAll0 (r.map dat)) = true
      rw [ih.1]
      rfl
    · show max (PyData.depth (dat z)) (PyData.depthAll (r.map dat)) ≤ 1
      have e : PyData.depth (dat z) = 1 := rfl
      omega
theorem dats_shaped (l : List Fq) : SeqAt.shaped (.list (l.map dat)) = true := by
  obtain ⟨h1, h2⟩ := dats_lay l
  show (PyData.canLayAll0 (l.map dat) && decide (PyData.depthAll (l.map dat) + 1 ≤ 64)) = true
  rw [h1, decide_eq_true (by omega)] <;> rfl
theorem dats_nil (l : List Fq) : PyData.eqv (.list (l.map dat)) (.list []) = l.isEmpty := by
  cases l <;> rfl
theorem eqv_pair {a b c d : Int} : PyData.eqv (.tuple [.int a, .int b]) (.tuple [.int c, .int d]) = decide (a = c ∧ b = d) := by
  show ((a == c) && ((b == d) && true)) = decide (a = c ∧ b = d)
  rw [Bool.and_true, Bool.decide_and]
  rfl
/-! data of any make beside the box p -/
inductive Da (p : Addr) (H : Hp) : Nat → V → PyData → Prop
  | non (n : Nat) : Da p H (n + 1) .non .none
  | bl (n : Nat) (b : Bool) : Da p H (n + 1) (.bl b) (.bool b)
  | int (n : Nat) (i : Int) : Da p H (n + 1) (.int i) (.int i)
  | str (n : Nat) (x : Str) : Da p H (n + 1) (.str x) (.str x)
  | lst {n : Nat} {a : Addr} {xs : List V} {ds : List PyData} : a ≠ p → H a = some (.lst xs) → xs.length = ds.length → xs.length ≤ 100000 → (∀ (i : Nat) (x : V) (d : PyData), xs[i]? = some x → ds[i]? = some d → Da p H n x d) → Da p H (n + 1) (.ref a) (.list ds)
  | tup {n : Nat} {a : Addr} {xs : List V} {ds : List PyData} : a ≠ p → H a = some (.tup xs) → xs.length = ds.length → xs.length ≤ 100000 → (∀ (i : Nat) (x : V) (d : PyData), xs[i]? = some x → ds[i]? = some d → Da p H n x d) → Da p H (n + 1) (.ref a) (.tuple ds)
theorem Da.fr {p : Addr} {H H' : Hp} (s : Fr p H H') : ∀ {n : Nat} {v : V} {d : PyData}, Da p H n v d → Da p H' n v d := by
  intro n v d h
  induction h with
  | non n => exact .non n
  | bl n b => exact .bl n b
  | int n i => exact .int n i
  | str n x => exact .str n x
  | lst h0 h1 h2 h3 _ ih => exact .lst h0 (s _ _ h0 h1) h2 h3 ih
  | tup h0 h1 h2 h3 _ ih => exact .tup h0 (s _ _ h0 h1) h2 h3 ih
theorem Da.up {p : Addr} {H : Hp} {n m : Nat} {v : V} {d : PyData} (h : Da p H n v d) : n ≤ m → Da p H m v d := by
  intro le
  induction h generalizing m with
  | non n => obtain ⟨k, rfl⟩ : ∃ k, m = k + 1 := ⟨m - 1, by omega⟩; exact .non k
  | bl n b => obtain ⟨k, rfl⟩ : ∃ k, m = k + 1 := ⟨m - 1, by omega⟩; exact .bl k b
  | int n i => obtain ⟨k, rfl⟩ : ∃ k, m = k + 1 := ⟨m - 1, by omega⟩; exact .int k i
  | str n x => obtain ⟨k, rfl⟩ : ∃ k, m = k + 1 := ⟨m - 1, by omega⟩; exact .str k x
  | lst h0 h1 h2 h3 _ ih => obtain ⟨k, rfl⟩ : ∃ k, m = k + 1 := ⟨m - 1, by omega⟩; exact .lst h0 h1 h2 h3 fun i x d a b => ih i x d a b (by omega)
  | tup h0 h1 h2 h3 _ ih => obtain ⟨k, rfl⟩ : ∃ k, m = k + 1 := ⟨m - 1, by omega⟩; exact .tup h0 h1 h2 h3 fun i x d a b => ih i x d a b (by omega)
/-- each of a row is such data -/
def AllDa (p : Addr) (H : Hp) (n : Nat) (xs : List V) : Prop := ∀ x ∈ xs, ∃ d, Da p H n x d
theorem AllDa.fr {p : Addr} {H H' : Hp} {n : Nat} {xs : List V} (h : AllDa p H n xs) (s : Fr p H H') : AllDa p H' n xs := fun x hx => (h x hx).elim fun d q => ⟨d, q.fr s⟩
theorem AllDa.up {p : Addr} {H : Hp} {n m : Nat} {xs : List V} (h : AllDa p H n xs) (le : n ≤ m) : AllDa p H m xs := fun x hx => (h x hx).elim fun d q => ⟨d, q.up le⟩
theorem AllDa.nil {p : Addr} {H : Hp} {n : Nat} : AllDa p H n [] := fun x hx => absurd hx List.not_mem_nil
theorem AllDa.cons {p : Addr} {H : Hp} {n : Nat} {x : V} {xs : List V} (h : ∃ d, Da p H n x d) (t : AllDa p H n xs) : AllDa p H n (x :: xs) := fun y hy => by
  rcases List.mem_cons.mp hy with e | e
  · rw [e]
    exact h
  · exact t y e
theorem AllDa.append {p : Addr} {H : Hp} {n : Nat} {xs ys : List V} (h : AllDa p H n xs) (t : AllDa p H n ys) : AllDa p H n (xs ++ ys) := fun y hy => by
  rcases List.mem_append.mp hy with e | e
  · exact h y e
  · exact t y e
/-- what the datas of a row are -/
theorem AllDa.pick {p : Addr} {H : Hp} {n : Nat} : ∀ {xs : List V}, AllDa p H n xs → ∃ ds : List PyData, xs.length = ds.length ∧ ∀ (i : Nat) (x : V) (d : PyData), xs[i]? = some x → ds[i]? = some d → Da p H n x d
  | [], _ => ⟨[], rfl, fun i x d h => by simp at h⟩
  | x :: xs, h => by
    obtain ⟨d, q⟩ := h x List.mem_cons_self
    obtain ⟨ds, e, r⟩ := AllDa.pick (xs := xs) fun y hy => h y (List.mem_cons_of_mem _ hy)
    refine ⟨d :: ds, by rw [List.length_cons, List.length_cons, e], fun i y c h1 h2 => ?_⟩
    match i, h1, h2 with
    | 0, h1, h2 => cases h1; cases h2; exact q
    | i + 1, h1, h2 => exact r i y c h1 h2
theorem AllDa.tup {p : Addr} {H : Hp} {n : Nat} {xs : List V} {a : Addr} (h : AllDa p H n xs) (ne : a ≠ p) (e : H a = some (.tup xs)) (z : Nat.ble xs.length 100000 = true := by rfl) : ∃ d, Da p H (n + 1) (.ref a) d := by
  obtain ⟨ds, l, r⟩ := h.pick
  exact ⟨_, .tup ne e l (Nat.le_of_ble_eq_true z) r⟩
theorem AllDa.lst {p : Addr} {H : Hp} {n : Nat} {xs : List V} {a : Addr} (h : AllDa p H n xs) (ne : a ≠ p) (e : H a = some (.lst xs)) (z : Nat.ble xs.length 100000 = true := by rfl) : ∃ d, Da p H (n + 1) (.ref a) d := by
  obtain ⟨ds, l, r⟩ := h.pick
  exact ⟨_, .lst ne e l (Nat.le_of_ble_eq_true z) r⟩
theorem daI {p : Addr} {H : Hp} {n : Nat} (i : Int) : ∃ d, Da p H (n + 1) (.int i) d := ⟨_, .int n i⟩
theorem daB {p : Addr} {H : Hp} {n : Nat} (b : Bool) : ∃ d, Da p H (n + 1) (.bl b) d := ⟨_, .bl n b⟩
theorem daS {p : Addr} {H : Hp} {n : Nat} (x : Str) : ∃ d, Da p H (n + 1) (.str x) d := ⟨_, .str n x⟩
theorem daN {p : Addr} {H : Hp} {n : Nat} : ∃ d, Da p H (n + 1) .non d := ⟨_, .non n⟩
theorem AllDa.one {p : Addr} {H : Hp} {n m : Nat} {x : V} (h : ∃ d, Da p H n x d) (le : n ≤ m) : AllDa p H m [x] := .cons (h.elim fun d q => ⟨d, q.up le⟩) .nil
theorem AllDa.two {p : Addr} {H : Hp} {n : Nat} {x y : V} (h : ∃ d, Da p H n x d) (k : ∃ d, Da p H n y d) : AllDa p H n [x, y] := .cons h (.cons k .nil)
theorem da_fr {p : Addr} {H H' : Hp} {n : Nat} {v : V} (h : ∃ d, Da p H n v d) (s : Fr p H H') : ∃ d, Da p H' n v d := h.elim fun d q => ⟨d, q.fr s⟩
theorem da_up {p : Addr} {H : Hp} {n m : Nat} {v : V} (h : ∃ d, Da p H n v d) (le : n ≤ m) : ∃ d, Da p H m v d := h.elim fun d q => ⟨d, q.up le⟩
theorem BoxAt.new {H : Hp} {p a : Addr} {n : Nat} (h : BoxAt H p n) (e : H a = none) : a ≠ p := by
  obtain ⟨o, ho⟩ := h.some
  exact (ne_of_none ho e).symm
/-- an item at a place that is there -/
theorem at_some {xs : List V} {z : Int} (h0 : 0 ≤ z) (h1 : z < (xs.length : Int)) : ∃ v, atI xs z = some v ∧ v ∈ xs := by
  have g : xs[z.toNat]? = some xs[z.toNat] := List.getElem?_eq_getElem (by omega)
  exact ⟨_, at_of (j := z.toNat) (by omega) g, List.getElem_mem _⟩
/-- which kinds of built-in classes a data is of -/
def isTupD : PyData → Bool
  | .tuple _ => true
  | _ => false
def isIntD : PyData → Bool
  | .int _ => true
  | .bool _ => true
  | _ => false
def isBoolD : PyData → Bool
  | .bool _ => true
  | _ => false
def isListD : PyData → Bool
  | .list _ => true
  | _ => false
def isStrD : PyData → Bool
  | .str _ => true
  | _ => false
structure Kinds (K : PySem.W.Frag) (H : Hp) (v : V) (d : PyData) (t : String) : Prop where
  ty : TyX K H v (.type t)
  tup : kitB t "tuple" = some (isTupD d)
  lst : kitB t "list" = some (isListD d)
  int : kitB t "int" = some (isIntD d)
  bool : kitB t "bool" = some (isBoolD d)
  str : kitB t "str" = some (isStrD d)
theorem Da.kinds {K : PySem.W.Frag} {p : Addr} {H : Hp} {n : Nat} {v : V} {d : PyData} (h : Da p H n v d) : ∃ t, Kinds K H v d t := by
  cases h with
  | non => exact ⟨"NoneType", .base .non, by decide +kernel, by decide +kernel, by decide +kernel, by decide +kernel, by decide +kernel⟩
  | bl _ b => exact ⟨"bool", .base (.bl b), by show _ = some false; decide +kernel, by show _ = some false; decide +kernel, by show _ = some true; decide +kernel, by show _ = some true; decide +kernel, by show _ = some false; decide +kernel⟩
  | int _ i => exact ⟨"int", .base (.int i), by show _ = some false; decide +kernel, by show _ = some false; decide +kernel, by show _ = some true; decide +kernel, by show _ = some false; decide +kernel, by show _ = some false; decide +kernel⟩
  | str _ x => exact ⟨"str", .base (.str x), by show _ = some false; decide +kernel, by show _ = some false; decide +kernel, by show _ = some false; decide +kernel, by show _ = some false; decide +kernel, by show _ = some true; decide +kernel⟩
  | lst _ a1 => exact ⟨"list", .base (.lst a1), by show _ = some false; decide +kernel, by show _ = some true; decide +kernel, by show _ = some false; decide +kernel, by show _ = some false; decide +kernel, by show _ = some false; decide +kernel⟩
  | tup _ a1 => exact ⟨"tuple", .base (.tup a1), by show _ = some true; decide +kernel, by show _ = some false; decide +kernel, by show _ = some false; decide +kernel, by show _ = some false; decide +kernel, by show _ = some false; decide +kernel⟩
/-- repr of a truth -/
theorem cr_reprB {X : Cx} : CallR X (.builtin "repr") (fun xs H Q => ∃ b : Bool, xs = [.bl b] ∧ Q (.str (if b = true then "True" else "False")) H) := by
  intro pins s σ H xs us Q I r h
  obtain ⟨b, rfl, q⟩ := h
  cases r with
  | cons r1 r2 =>
    cases r2
    cases r1
    exact PySem.P.repr_of_bool ⟨.str _, H, I.tok _, ⟨_, rfl⟩, q⟩
/-- xs + ys, a new list -/
def rCatI : R2 := fun x y H Q => ∃ l b xs zs, x = .ref l ∧ y = .ref b ∧ H l = some (.lst xs) ∧ H b = some (.lst zs) ∧ xs.length + zs.length ≤ sizeLine ∧ ∀ p H', Same H H' → H p = none → H' p = some (.lst (xs ++ zs)) → Q (.ref p) H'
theorem op_catI {X : Cx} : OpR X (binaryOp .Add) rCatI := fun pins s σ H x y v u Q I rx ry ⟨l, b, xs, zs, e1, e2, h1, h2, z, k⟩ =>
  op_cat pins s σ H x y v u Q I rx ry ⟨l, b, xs, zs, e1, e2, h1, h2, z, fun p hp => k p _ (same_new hp) hp upd_same⟩
/-- a number; a fraction -/
def isNumD (d : PyData) : Bool := isIntD d && !isBoolD d
def isFracD : PyData → Bool
  | .tuple [.int t, .int b] => decide (0 < b) && decide (Nat.gcd t.natAbs b.natAbs = 1)
  | _ => false
theorem frac_no {d e : PyData} (h : isNumD d = false ∨ isNumD e = false) : isFracD (.tuple [d, e]) = false := by
  cases d <;> cases e <;> first | rfl | (rcases h with h | h <;> cases h)
theorem frac_len {ds : List PyData} (h : ds.length ≠ 2) : isFracD (.tuple ds) = false := by
  match ds, h with
  | [], _ => rfl
  | [d], _ => cases d <;> rfl
  | [_, _], h => exact absurd rfl h
  | d :: e :: _ :: _, _ => cases d <;> cases e <;> rfl
theorem num_int {p : Addr} {H : Hp} {n : Nat} {v : V} {d : PyData} (h : Da p H n v d) (k : isNumD d = true) : ∃ i, d = .int i ∧ v = .int i := by
  cases h with
  | int _ i => exact ⟨i, rfl, rfl⟩
  | non => cases k
  | bl => cases k
  | str => cases k
  | lst => cases k
  | tup => cases k
/-- rows of truths as data -/
theorem dps_bools {K : PySem.W.Frag} {H : Hp} : ∀ bs : List Bool, DpAll K H (bs.map V.bl) (bs.map PyData.bool)
  | [] => .nil
  | b :: r => .cons (.bl b) (dps_bools r)
theorem bools_shaped (bs : List Bool) : SeqAt.shaped (.list (bs.map PyData.bool)) = true := by
  have h : PyData.canLayAll0 (bs.map PyData.bool) = true ∧ PyData.depthAll (bs.map PyData.bool) = 0 := by
    induction bs with
    | nil => exact ⟨rfl, rfl⟩
    | cons b r ih =>
      refine ⟨?_, ?_⟩
      · show (PyData.canLay0 (.bool b) && PyData.canLayAll0 (r.map PyData.bool)) = true
        rw [ih.1] <;> rfl
      · show max (PyData.depth (.bool b)) (PyData.depthAll (r.map PyData.bool)) = 0
        rw [ih.2] <;> rfl
  show (PyData.canLayAll0 (bs.map PyData.bool) && decide (PyData.depthAll (bs.map PyData.bool) + 1 ≤ 64)) = true
  rw [h.1, h.2] <;> rfl
theorem take_one {α : Type} {l : List α} {i : Nat} {x : α} (h : l[i]? = some x) : l.take (i + 1) = l.take i ++ [x] := by
  rw [List.take_add_one, h] <;> rfl
end KR
/-! ### texts -/
namespace KR
open PySem PySem.Spec PyProof.Rows L2
theorem strs_of : ∀ {ys : List Str} {us : List Value}, Vals (ys.map V.str) us → StrsAre us ys
  | [], _, .nil => .nil
  | y :: r, _, .cons h t => by
    obtain ⟨k, rfl⟩ := h
    exact .cons y k (strs_of t)
section
variable {X : Cx} {K : PySem.W.Frag}
/-- sep.join(it), it a list walked from its end -/
theorem join_rev {prog : Program} {w : World} {A : Around} {E : Value → Shared → Prop} {s : Shared} {x : Str} {t : Tok} {it l : Addr} {items : Array Value} {ys : List Str} {Q : Value → Shared → Prop} (hh : A.handled = none)
    (hit : s.heap.IsRevIter it l ((items.size : Int) - 1)) (hl : s.heap.IsList l items) (hne : l ≠ it) (hn : items.size ≤ sizeLine)
    (hP : ∀ acc : Array Value, ItemsOf (fun i v => items[items.size - 1 - i]? = some v) acc items.size → StrsAre acc.toList ys) (hok : (ys.map (·.length)).sum + ys.length * x.length ≤ 16777216)
    (hq : ∀ (h' : Heap) (t' k : Nat), (∀ b o, b ≠ it → s.heap.get? b = some o → h'.get? b = some o) → Q (.str (Txt.join x ys) t') { s with heap := h', toks := k }) :
    wpAny (model prog w) A (call (.builtin "str.join") [.str x t, .ref it]) Q E s := by
  apply wpAny_call
  refine codeAny_call_builtin F.slot_str_join.plain F.entry_str_join (F.slot_str_join.check _ _ _ _ _ _ _ _ (typeIs_str _ _ _) (F.args_str_join_2 _ _) ?_)
  rw [join_tree_other]
  refine wpAny_bind (wpAny_typeOf hit.typeIs ?_)
  show wpAny _ A.in1 ((pyIter (.ref it)).tryCatch _ >>= fun j => collect j >>= fun vs => joinTail x vs) _ _ s
  refine wpAny_bind (wpAny_tryCatch (wpAny_pyIter_revIter hit (wpAny_bind (RT.collect_rev (A := A.in1) hh hit hl hne hn fun h' tk acc hk hacc => ?_))))
  obtain ⟨ps, e1, e2⟩ := strsAre_values (hP acc hacc)
  subst e2
  rw [e1]
  have fits := joinOk_of hok
  unfold JoinOk at fits
  rw [Bool.not_eq_true'] at fits
  have g : Gives (joinTail x (strValues ps)) (joinMade x ps) := by
    have g0 := gives_joinTail x ps fits
    rcases ps with _ | ⟨a, _ | ⟨b, r⟩⟩ <;> exact g0
  exact g prog w A (wants Q E) { s with heap := h', toks := tk } (post_join ps ⟨joinFit_length fits, fun t' k => hq h' t' k hk⟩)
/-- sep.join(reversed(xs)), xs a list of texts -/
def tJoinRev (K : PySem.W.Frag) (to te : TE) : TE := fun σ H Q => to σ H fun x H1 => (∃ a, x = .str a) ∧ te σ H1 fun v H2 => ∃ (a : Str) (q : Addr) (ys : List Str), x = .str a ∧ v = .ref q ∧ SqL K H2 q (ys.map V.str) ∧ (ys.map (·.length)).sum + ys.length * a.length ≤ 16777216 ∧ Q (.str (Txt.join a ys.reverse)) H2
theorem sum_rev (l : List Nat) : l.reverse.sum = l.sum := by
  induction l with
  | nil => rfl
  | cons a r ih =>
    rw [List.reverse_cons, List.sum_append, ih, List.sum_cons, List.sum_cons, List.sum_nil]
    omega
theorem pe_joinRev {o e : Expr} {to te : TE} {apos pos p pos2 : Pos} (hK : X.K = K) (hc : X.calm = true) (hg : Gl X "reversed") (hm : X.mg "reversed" = none) (ho : PE X o to) (he : PE X e te)
    (hs1 : starEach [.Call (.Name "reversed" p) [e] [] pos2] X.env = [(false, eval (.Call (.Name "reversed" p) [e] [] pos2) X.env)] := by rfl) (hs : starEach [e] X.env = (false, eval e X.env) :: starEach [] X.env := by rfl)
    (hbase : attributeBase o "join" X.env (eval o X.env) = eval o X.env := by rfl) (hline : (apos.endLine == pos.line) = true := by rfl) :
    PE X (.Call (.Attribute o "join" apos) [.Call (.Name "reversed" p) [e] [] pos2] [] pos) (tJoinRev K to te) := by
  subst hK
  constructor
  intro pins s σ H Q I want
  refine PySem.Call_method1 hbase hs1 hline (thn (ho.run pins s σ H _ I want) ?_)
  rintro v s1 ⟨x, H1, I1, r1, ⟨a, rfl⟩, q1⟩
  obtain ⟨t, rfl⟩ : ∃ t, v = Value.str a t := r1
  refine ⟨"str", "str.join", F.plainAttrs_str, F.slot_str_join, F.type_str_join, typeIs_str _ _ _, nofun, Calls.callWith_builtin rfl (Calls.evalArgs_plain (Calls.spliced_cons ?_))⟩
  refine Call_ (ld_blt I1 hg hm PyProof.Rows.boot_reversed (PyProof.Rows.callWith_type1 (args_cons (thn (he.run pins s1 σ H1 _ I1 q1) ?_) hs) hs rfl))
  rintro u s2 ⟨y, H2, I2, r2, a', q, ys, ea, rfl, hq, hz, k⟩
  cases ea
  cases r2
  obtain ⟨its, rv, pl, hsz⟩ := I2.list hq
  refine args_nil (call_reversed_list pl.isList (Calls.spliced_nil ?_))
  have old : ∀ b o, s2.heap.get? b = some o → (s2.heap.push (revObj q ((its.toArray.size : Int) - 1))).get? b = some o := fun b o g => Heap.get?_push_of_some _ g
  obtain ⟨oq, hoq, _⟩ := id pl.isList
  have neq : q ≠ s2.heap.objs.size := Nat.ne_of_lt (Heap.lt_size hoq)
  have len : its.toArray.size ≤ sizeLine := by rw [List.size_toArray, ← rv.length]; exact hsz
  refine join_rev (s := { s2 with heap := s2.heap.push (revObj q ((its.toArray.size : Int) - 1)) }) (ys := ys.reverse) (I2.ok.hd hc) ⟨_, Heap.get?_push_size _ rfl, rfl, rfl⟩ (pl.isList.push _) neq len (fun acc hacc => strs_of ?_) ?_ fun h' t' k' keep => ?_
  · rw [List.map_reverse]
    exact RT.vals_rev rv hacc
  · rw [List.map_reverse, sum_rev, List.length_reverse]
    exact hz
  · exact ⟨.str _, H2, I2.kept (t' := k') (fun b o g => keep b o (Nat.ne_of_lt (Heap.lt_size g)) (old b o g)), ⟨t', rfl⟩, k⟩
end
/-! texts as rows of codes -/
abbrev S (l : List Nat) : Str := ⟨l.toArray⟩
theorem tl_S (l : List Nat) : TL.tl (S l) = l := rfl
theorem S_tl (x : Str) : S (TL.tl x) = x := TL.mk_tl x
theorem S_len (l : List Nat) : (S l).length = l.length := by rw [TL.len_tl]
theorem S_app (l m : List Nat) : S l ++ S m = S (l ++ m) := TL.ext_tl (by rw [TL.tl_append])
theorem S_inj {l m : List Nat} (h : S l = S m) : l = m := congrArg TL.tl h
theorem lit_minus : ("-" : Str) = S [45] := by decide +kernel
theorem lit_stroke : ("/" : Str) = S [47] := by decide +kernel
theorem lit_one : ("1" : Str) = S [49] := by decide +kernel
theorem lit_zero : ("0" : Str) = S [48] := by decide +kernel
theorem lit_none : ("" : Str) = S [] := by decide +kernel
theorem lit_empty : Str.empty = S [] := by decide +kernel
theorem lit_digits : ("0123456789" : Str) = S [48, 49, 50, 51, 52, 53, 54, 55, 56, 57] := by decide +kernel
theorem num_S (n : Nat) : Str.ofString (toString ((n : Nat) : Int)) = S (TL.numL n) := TL.ext_tl (TL.tl_num n)
theorem numL_cut (n : Nat) : TL.numL n = (if n / 10 = 0 then [] else TL.numL (n / 10)) ++ [48 + n % 10] := by
  by_cases h : n < 10
  · rw [TL.numL_lt h, if_pos (by omega), show n % 10 = n by omega] <;> rfl
  · rw [TL.numL_step (by omega), if_neg (by omega)]
theorem dig_at {k : Int} (h0 : 0 ≤ k) (h1 : k < 10) : atI ("0123456789" : Str).cps.toList k = some (48 + k.toNat) := by
  rw [lit_digits]
  have ks : k = 0 ∨ k = 1 ∨ k = 2 ∨ k = 3 ∨ k = 4 ∨ k = 5 ∨ k = 6 ∨ k = 7 ∨ k = 8 ∨ k = 9 := by omega
  rcases ks with e | e | e | e | e | e | e | e | e | e <;> subst e <;> rfl
theorem lit_len : ("0123456789" : Str).length ≤ sizeLine := by decide +kernel
/-- text times a number from 0 -/
theorem op_mul_str {X : Cx} : OpR X (binaryOp .Mult) (fun x y H Q => ∃ (a : Str) (n : Nat), x = .str a ∧ y = .int (n : Int) ∧ a.length * n ≤ 100000 ∧ n ≤ 100000 ∧ Q (.str (Txt.mul a n)) H) := by
  intro pins s σ H x y v u Q I rx ry h
  obtain ⟨a, n, rfl, rfl, hz, hn, q⟩ := h
  obtain ⟨t, rfl⟩ := rx
  obtain ⟨t', rfl⟩ := ry
  refine SB.mul ⟨?_, fun h1 h2 => ?_, fun h1 h2 => ?_⟩ fun t2 k => ⟨.str _, H, I.tok _, ⟨_, rfl⟩, q⟩
  · rw [decide_eq_false (by omega), decide_eq_false (by omega)] <;> rfl
  · have n1 : (1 : Int) ≤ (n : Int) := by omega
    intro bad
    have b2 : ((2 ^ 63 - 1 : Int)) / (n : Int) ≥ (2 ^ 63 - 1 : Int) / 100000 := by
      refine Int.le_ediv_of_mul_le (by omega) ?_
      have e : (2 ^ 63 - 1 : Int) / 100000 * (n : Int) ≤ (2 ^ 63 - 1 : Int) / 100000 * 100000 := Int.mul_le_mul_of_nonneg_left (by omega) (by decide)
      exact Int.le_trans e (by decide)
    have a9 : a.length ≤ 100000 := by
      have : a.length * 1 ≤ a.length * n := Nat.mul_le_mul_left _ (by omega)
      omega
    have e3 : (2 ^ 63 - 1 : Int) / 100000 = 92233720368547 := by decide
    omega
  · rw [Int.toNat_natCast]
    exact decide_eq_false (by have := small hz; omega)
theorem mul_zero (a : Str) : Txt.mul a ((0 : Nat) : Int) = S [] := by
  unfold Txt.mul
  rw [if_pos (by decide), lit_empty]
theorem mul_one (a : Str) : Txt.mul a ((1 : Nat) : Int) = a := by
  unfold Txt.mul
  rw [if_neg (by decide), if_pos (by rfl)]
/-- a minus ahead, cut off -/
theorem sub_minus (l : List Nat) : Builtin.Str.subAt (S l) (S [45]) 0 = (l.head? == some 45) := by
  unfold Builtin.Str.subAt
  rcases l with _ | ⟨c, r⟩
  · rfl
  · have e : ((S (c :: r)).cps.extract 0 (0 + (S [45]).length)) = #[c] := by
      apply Array.toList_inj.mp
      rw [Array.toList_extract]
      rfl
    rw [e]
    show (#[c] == #[45]) = (some c == some 45)
    by_cases h : c = 45
    · subst h
      rfl
    · have e2 : (some c == some 45) = false := by
        rw [beq_eq_false_iff_ne]
        exact fun z => h (Option.some.inj z)
      rw [e2, beq_eq_false_iff_ne]
      intro z
      exact h (by have := congrArg (fun a => a[0]?) z; simpa using this)
theorem prefix_minus (l : List Nat) : Txt.removeprefix (S l) (S [45]) = S (if l.head? = some 45 then l.tail else l) := by
  unfold Txt.removeprefix
  rw [sub_minus]
  by_cases h : l.head? = some 45
  · rw [if_pos h, if_pos (by rw [h] <;> rfl)]
    rcases l with _ | ⟨c, r⟩
    · cases h
    · show (if ((S (c :: r)).length - (S [45]).length == (S (c :: r)).length) = true then S (c :: r) else Builtin.Str.strSub (S (c :: r)) (S [45]).length (S (c :: r)).length) = S r
      have e1 : (S (c :: r)).length = r.length + 1 := by rw [S_len] <;> rfl
      have e2 : (S [45]).length = 1 := rfl
      rw [if_neg (by rw [e1, e2, beq_iff_eq]; omega)]
      apply TL.ext_tl
      show ((S (c :: r)).cps.extract (S [45]).length (S (c :: r)).length).toList = r
      rw [Array.toList_extract, e1, e2]
      show List.take (r.length + 1 - 1) (List.drop 1 (c :: r)) = r
      rw [Nat.add_sub_cancel]
      exact List.take_length
  · rw [if_neg h, if_neg (by rw [beq_iff_eq]; exact h)]
    rfl
theorem starts_minus (l : List Nat) : Txt.startswith (S l) (S [45]) = (l.head? == some 45) := by
  unfold Txt.startswith
  rw [sub_minus]
  rcases l with _ | ⟨c, r⟩
  · rfl
  · rw [decide_eq_true (show 0 + (S [45]).length ≤ (S (c :: r)).length by rw [S_len, S_len]; show 0 + 1 ≤ r.length + 1; omega), Bool.true_and]
/-- one to so many figures -/
def figs (l : List Nat) : Bool := !l.isEmpty && l.all fun c => decide (48 ≤ c) && decide (c ≤ 57)
theorem ascii_S (l : List Nat) : Txt.isascii (S l) = l.all (· < 128) := by
  unfold Txt.isascii
  rw [← Array.all_toList]
theorem dig_code : ∀ c, c < 128 → Unicode.isDigit c = (decide (48 ≤ c) && decide (c ≤ 57)) := by decide +kernel
theorem digit_S {l : List Nat} (h : l.all (· < 128) = true) : Txt.isdigit (S l) = figs l := by
  unfold Txt.isdigit figs
  rw [← Array.all_toList, S_len]
  have e1 : decide (l.length > 0) = !l.isEmpty := by
    cases l <;> rfl
  have e2 : l.all Unicode.isDigit = l.all fun c => decide (48 ≤ c) && decide (c ≤ 57) := by
    rw [List.all_eq_true] at h
    clear e1
    induction l with
    | nil => rfl
    | cons c r ih =>
      rw [List.all_cons, List.all_cons, ih fun x hx => h x (List.mem_cons_of_mem _ hx), dig_code c (of_decide_eq_true (h c List.mem_cons_self))]
  rw [e1]
  exact congrArg _ e2
theorem figs_ascii {l : List Nat} (h : figs l = true) : l.all (· < 128) = true := by
  unfold figs at h
  rw [Bool.and_eq_true] at h
  have h3 := List.all_eq_true.mp h.2
  rw [List.all_eq_true]
  intro c hc
  have := h3 c hc
  rw [Bool.and_eq_true] at this
  have h2 := of_decide_eq_true this.2
  exact decide_eq_true (by omega)
theorem figs_num (n : Nat) : figs (TL.numL n) = true := by
  unfold figs
  rw [Bool.and_eq_true]
  refine ⟨?_, ?_⟩
  · have := TL.numL_ne n
    cases e : TL.numL n with
    | nil => exact absurd e this
    | cons _ _ => rfl
  · rw [List.all_eq_true]
    intro c hc
    have := TL.numL_digits n c hc
    rw [decide_eq_true this.1, decide_eq_true this.2] <;> rfl
theorem figs_int {l : List Nat} (h : figs l = true) (z : l.length ≤ 600) : PySem.intText? (S l) = some ((NumText.digitsVal l : Nat) : Int) := by
  unfold figs at h
  rw [Bool.and_eq_true] at h
  have d : NumText.AllDigits l := fun c hc => by
    have := List.all_eq_true.mp h.2 c hc
    rw [Bool.and_eq_true] at this
    exact ⟨of_decide_eq_true this.1, of_decide_eq_true this.2⟩
  have ne : l ≠ [] := by
    intro e
    rw [e] at h
    exact Bool.noConfusion h.1
  exact PySem.intText_digits (x := S l) d ne (by rw [S_len]; omega)
/-- a fraction's text -/
def fracL (t b : Int) : List Nat := (if t < 0 then [45] else []) ++ (TL.numL t.natAbs ++ (if b = 1 then [] else 47 :: TL.numL b.natAbs))
/-- ahead of the first stroke, whether there is one, behind it -/
def cutL : List Nat → List Nat × Bool × List Nat
  | [] => ([], false, [])
  | c :: r => if c = 47 then ([], true, r) else (c :: (cutL r).1, (cutL r).2)
theorem cut_app {a b : List Nat} (h : 47 ∉ a) : cutL (a ++ 47 :: b) = (a, true, b) := by
  induction a with
  | nil => rfl
  | cons c r ih =>
    have hc : c ≠ 47 := fun e => h (by rw [e]; exact List.mem_cons_self)
    have ih' := ih fun m => h (List.mem_cons_of_mem _ m)
    show (if c = 47 then _ else (c :: (cutL (r ++ 47 :: b)).1, (cutL (r ++ 47 :: b)).2)) = _
    rw [if_neg hc, ih']
theorem cut_none {a : List Nat} (h : 47 ∉ a) : cutL a = (a, false, []) := by
  induction a with
  | nil => rfl
  | cons c r ih =>
    have hc : c ≠ 47 := fun e => h (by rw [e]; exact List.mem_cons_self)
    have ih' := ih fun m => h (List.mem_cons_of_mem _ m)
    show (if c = 47 then _ else (c :: (cutL r).1, (cutL r).2)) = _
    rw [if_neg hc, ih']
/-- either no stroke, or the first one -/
theorem cut_ways (l : List Nat) : (47 ∉ l ∧ cutL l = (l, false, [])) ∨ ∃ a b, l = a ++ 47 :: b ∧ 47 ∉ a ∧ cutL l = (a, true, b) := by
  by_cases h : 47 ∈ l
  · obtain ⟨a, b, e, n⟩ := List.eq_append_cons_of_mem h
    exact .inr ⟨a, b, e, n, by rw [e]; exact cut_app n⟩
  · exact .inl ⟨h, cut_none h⟩
end KR
/-! ### defs that ask repr: no repr is under way around them -/
namespace KR
open PySem PySem.Spec PyProof.Rows L2
section
variable {P : Program} {w : World} {K : PySem.W.Frag} {mg : Str → Option Value} {base : Heap}
structure FnG (P : Program) (w : World) (K : PySem.W.Frag) (mg : Str → Option Value) (base : Heap) (k : Nat) (f : Addr) (fd : FuncData) (ps : List Str) (sp : Sp) : Prop where
  many : ∀ vs H Q E, sp vs H Q E → vs.length = ps.length
  does : ∀ (A : Around) (outer : List Env) (s : Shared) (H : Hp) (args : Args) (us : List Value) (vs : List V) (Q : VK) (E : XK), Room k A → A.guards = some [] → Env0 P w K mg base A outer s H → BindsTo s fd args (ps.zip us) → Vals vs us →
    sp vs H Q E → codeAny (model P w) A (.call (.ref f) args) (CR CX0 outer P w H s Q E) s
/-- the end of a def's body is the end of its call -/
theorem body_end {N : List Str} {qual : Str} {sc : Scope} {f : Addr} {cdv : Value} {A : Around} {outer : List Env} {s s' : Shared} {H : Hp} {Q : VK} {E : XK} {fl : Flow}
    (h : SP (cxOf CX0 P w K mg base N qual sc f cdv A outer s H E) [] { nx := fun _ H' => Q .non H', rt := Q } fl s') : CR CX0 outer P w H s Q E (.ok (.ret (match fl with | .ret u => u | _ => .none))) s' ∧ (∀ u, fl = .ret u ∨ fl = .next ∨ fl = .brk ∨ fl = .cont → True) ∧ fl ≠ .brk ∧ fl ≠ .cont := by
  cases fl <;> simp only [SP] at h
  case next => obtain ⟨_, H', J, q⟩ := h; exact ⟨⟨V.non, H', J.os, J.bare, J.base, J.hok, rfl, q⟩, fun _ _ => trivial, nofun, nofun⟩
  case ret u => obtain ⟨v, _, H', J, rv, q⟩ := h; exact ⟨⟨v, H', J.os, J.bare, J.base, J.hok, rv, q⟩, fun _ _ => trivial, nofun, nofun⟩
  case brk => exact absurd h.choose_spec.choose_spec.2 id
  case cont => exact absurd h.choose_spec.choose_spec.2 id
theorem okG {x qual : Str} {st : Stmt} {f : Addr} {fd : FuncData} {N ps : List Str} {k : Nat} {sp : Sp} (F : Fun K x qual st f fd) (S : FnScope N ps (defScope st)) (many : ∀ vs H Q E, sp vs H Q E → vs.length = ps.length)
    (body : ∀ (cdv : Value) (A : Around) (outer : List Env) (s : Shared) (H : Hp) (vs : List V) (Q : VK) (E : XK), Room k (A.deeper (envOfC qual (defScope st) s.heap.objs.size f cdv)) → A.guards = some [] → sp vs H Q E →
      ∃ t, PSs (cxOf CX0 P w K mg base N qual (defScope st) f cdv A outer s H E).nox (defBody st) t ∧ t { nx := fun _ H' => Q .non H', rt := Q } (start N vs) H) : FnG P w K mg base (k + 1) f fd ps sp := by
  obtain ⟨_, _, _, _, _, _, cdv, _, _, rfl, lk, hcd⟩ := F.ex
  refine ⟨many, ?_⟩
  intro A outer s H args us vs Q E hr hg e0 hb rv hsp
  obtain ⟨t, ht, hq⟩ := body cdv A outer s H vs Q E (hr.deeper _) hg hsp
  have inK : K.In s.heap := e0.mod.kin.keeps fun b o q => (e0.bs b o q).1
  apply codeAny_call_function hr.depth (inK _ _ lk) rfl S.co S.gen rfl (PySem.W.codeRec_of inK hcd)
  refine hb _ _ _ _ (wpAny_newFunctionEnv_cells S.kind ?_ ?_)
  · rintro ⟨n, v⟩ hy
    exact (S.par n (List.of_mem_zip hy).1).imp id fun q => ⟨q, PySem.W.cellsFrom_some _ _ _ (Or.inl q)⟩
  · rintro env rfl s1 made
    refine ⟨(e0.mod.nolimit.keeps fun b o q => (e0.bs b o q).1).keeps made.toInCall.keep, codeAny_func ?_⟩
    have I := inv_start (CX := CX0) (E := E) S hr.hd e0 (many _ _ _ _ hsp) rv made
    refine wpAny_mono (ht.nox.run [] s1 (start N vs) H _ I hq) (fun fl s' hs => ?_) fun _ _ z => z
    obtain ⟨r, _, n1, n2⟩ := body_end hs
    cases fl with
    | next => exact r
    | ret u => exact r
    | brk => exact absurd rfl n1
    | cont => exact absurd rfl n2
end
section
variable {X : Cx} {k : Nat} {f : Addr} {fd : FuncData} {ps : List Str} {sp : Sp} {ds : List Value} {dvs : List V} {E : XK} {x : Str} {p pos : Pos} {e : Expr} {es : List Expr} {t : TA}
/-- a call of such a def, where no repr is under way -/
theorem pe_callG (F : FnG X.prog X.w X.K X.mg X.base k f fd ps sp) (room : Room k X.A) (calm : X.A.guards = some []) (glob : Gl X x) (at_ : X.mg x = some (.ref f)) (keep : PySem.W.keepIn X.K (.ref f) = true) (binds : Binds X.K fd ps ds) (dflt : Vals dvs ds) (pass : Passes CX0 X E)
    (args : PA X (e :: es) t) (nd : (x == ("__debug__" : Str)) = false := by decide) (he : starEach (e :: es) X.env = (false, eval e X.env) :: starEach es X.env := by rfl) (hpl : (backTo pos (starEach es X.env)).any (·.1) = false := by rfl) :
    PE X (.Call (.Name x p) (e :: es) [] pos) (tCall sp dvs E t) := by
  constructor
  intro pins s σ H Q I want
  refine wpAny_Call_Name_kw (ld_glob I glob at_ (PySem.W.callWith_K (h₀ := X.base) I.ok.mod.kin keep (thn (args.run pos pins s σ H _ I want) ?_) he hpl) nd)
  rintro us s1 ⟨vs, H1, I1, r, q⟩
  have many := F.many _ _ _ _ q
  have both : Vals (vs ++ dvs) (us ++ ds) := r.append dflt
  refine ⟨I1.kIn, wpAny_call (codeAny_mono (F.does X.A X.stack s1 H1 ⟨us, []⟩ _ _ Q E room calm I1.env0 (binds s1 us I1.kIn (both.length ▸ many)) both q) ?_)⟩
  intro r s' post
  match r, post with
  | .error e, post => exact pass pins σ H1 s1 e s' I1 post
  | .ok (.ret u), post => exact I1.after post
  | .ok .next, post => exact post.elim
  | .ok .brk, post => exact post.elim
  | .ok .cont, post => exact post.elim
end
/-- a def that asks no repr is one -/
theorem FnG.of {P : Program} {w : World} {K : PySem.W.Frag} {mg : Str → Option Value} {base : Heap} {k : Nat} {f : Addr} {fd : FuncData} {ps : List Str} {sp : Sp} (F : FnOk P w K mg base CX0 k f fd ps sp) : FnG P w K mg base k f fd ps sp :=
  ⟨F.len, fun A outer s H args us vs Q E hr _ => F.run A outer s H args us vs Q E hr⟩
/-- repr of data that is no text -/
def rReprD (K : PySem.W.Frag) : List V → Hp → VK → Prop := fun xs H Q => ∃ (a : Addr) (d : PyData), xs = [.ref a] ∧ Dp K H (.ref a) d ∧ d.showable = true ∧ d.hasDict = false ∧ d.depth ≤ 60 ∧ d.shown.length ≤ sizeLine ∧ Q (.str d.shown) H
theorem cr_reprD {X : Cx} (hg : X.A.guards = some []) (hu : X.A.units + 64 < cLine) : CallR X (.builtin "repr") (rReprD X.K) := by
  intro pins s σ H xs us Q I r h
  obtain ⟨a, d, rfl, dp, sh, nd, dd, sz, q⟩ := h
  cases r with
  | cons r1 r2 =>
    cases r2
    cases r1
    obtain ⟨as, rd⟩ := Dp.reads I d _ _ dp rfl
    exact repr_of_reads' rd sh (PyData.noDict_hsm nd) hg (by omega) (fun _ _ e => e) (fun h' u tk hk => ⟨.str _, H, I.kept (fun b o e => hk b o e), ⟨_, rfl⟩, q⟩) sz
theorem cr_reprDK {X : Cx} {K : PySem.W.Frag} (h : X.K = K) (hg : X.A.guards = some []) (hu : X.A.units + 64 < cLine) : CallR X (.builtin "repr") (rReprD K) := h ▸ cr_reprD hg hu
section
variable {P : Program} {w : World} {K : PySem.W.Frag} {mg mb : Str → Option Value} {k : Nat} {fa a : Addr} {fd : FuncData} {x : Str} {sp : Sp} {s₁ : Shared} {vs : List Value} {ns : List Int}
/-- what is tracked when the law is called: the script, unless the module itself made it -/
def scr (K : PySem.W.Frag) (a : Addr) (ob : Obj) (ns : List Int) : Hp := fun b => if b = a ∧ K.lookup a = none then some (.frz ob (.lst (ns.map V.int))) else none
theorem scr_some {ob : Obj} {b : Addr} {u : HO} (h : scr K a ob ns b = some u) : b = a ∧ K.lookup a = none ∧ u = .frz ob (.lst (ns.map V.int)) := by
  unfold scr at h
  split at h
  · rename_i c
    exact ⟨c.1, c.2, (Option.some.inj h).symm⟩
  · cases h
theorem call_law (inK : K.In s₁.heap) (gl : s₁.heap.Ns mainGlobals mg) (bl : s₁.heap.Ns builtinsNs mb) (boot : ∀ x : Str, x ≠ "__name__" → mb x = bootBuiltins x) (lim : s₁.heap.NoLimit) (quiet : s₁.gens = #[])
    (there : s₁.heap.get? a = some { cls := .type "list", data := .seq vs.toArray }) (areInts : IntsAre vs ns) (len : ns.length ≤ sizeLine) (room : Room k callerA)
    (F : ∀ base : Heap, K.In base → base.Ns mainGlobals mg → FnG P w K mg base k fa fd [x] sp) (binds : ∀ (s : Shared) (u : Value), BindsTo s fd ⟨[u], []⟩ [(x, u)])
    (asked : ∀ H : Hp, Only H → SqL K H a (ns.map V.int) → sp [.ref a] H (fun v _ => v = .bl true) fun _ _ _ => False) :
    codeAny (model P w) callerA (.call (.ref fa) ⟨[.ref a], []⟩) (fun r s' => r = .ok (.ret (.bool true)) ∧ OldK s₁.heap s'.heap ∧ s'.os = s₁.os ∧ AllBare s'.gens) s₁ := by
  let ob : Obj := { cls := .type "list", data := .seq vs.toArray }
  let H := scr K a ob ns
  have at_ : ∀ {b u}, H b = some u → b = a ∧ K.lookup a = none ∧ u = .frz ob (.lst (ns.map V.int)) := scr_some
  have no : ∀ b o, s₁.heap.get? b = some o → (∀ q, o ≠ { cls := .type "list", data := .seq q }) → H b = none := fun b o e d => by
    cases c : H b with
    | none => rfl
    | some u =>
      obtain ⟨rfl, _⟩ := at_ c
      exact absurd (Option.some.inj (e.symm.trans there)) (d _)
  have keepNs : ∀ {b : Addr} {m : Str → Option Value}, s₁.heap.Ns b m → (hidT s₁.heap H).Ns b m := fun {b m} ⟨o, es, ep, e, d, r⟩ =>
    ⟨o, es, ep, hidT_get e (no b o e fun q z => by rw [z] at d; cases d), d, r⟩
  have keepK : K.In (hidT s₁.heap H) := fun b o e => hidT_get (inK b o e) (by
    cases c : H b with
    | none => rfl
    | some u =>
      obtain ⟨rfl, n, _⟩ := at_ c
      rw [n] at e
      cases e)
  have rel := vals_ints areInts
  have holds : HOk P w H s₁.heap := fun b u c => by
    obtain ⟨rfl, _, rfl⟩ := at_ c
    exact ⟨there, by rw [List.length_map]; exact len, vs, _, rel, there⟩
  have only : Only H := fun b => by
    cases c : H b with
    | none => exact Or.inl rfl
    | some u => exact Or.inr ⟨ob, _, by rw [(at_ c).2.2]⟩
  have script : SqL K H a (ns.map V.int) := by
    cases c : K.lookup a with
    | none => exact Or.inl (Or.inr ⟨ob, if_pos ⟨rfl, c⟩⟩)
    | some o =>
      have e := Option.some.inj ((inK a o c).symm.trans there)
      subst e
      exact Or.inr ⟨_, vs.toArray, _, c, rfl, rfl, rfl, by rw [List.size_toArray, areInts.length]; exact len, by simpa using rel⟩
  have modul : Mod K mg (hidT s₁.heap H) := ⟨keepK, keepNs gl, ⟨mb, keepNs bl, boot⟩, lim.elim fun mc z => ⟨mc, keepNs z.1, z.2⟩⟩
  have start0 : Env0 P w K mg (hidT s₁.heap H) callerA [] s₁ H := ⟨rfl, modul, fun b o e => of_hidT e, Nat.le_of_eq (hidT_size _ _), trivial, fun b hb => (List.not_mem_nil hb).elim, holds, .of_eq quiet⟩
  refine codeAny_mono ((F _ keepK (keepNs gl)).does callerA [] s₁ H _ [.ref a] [.ref a] _ _ room rfl start0 (binds s₁ (.ref a)) (.cons rfl .nil) (asked H only script)) ?_
  intro r s' post
  match r, post with
  | .error e, post => exact False.elim post
  | .ok .next, post => exact post.elim
  | .ok .brk, post => exact post.elim
  | .ok .cont, post => exact post.elim
  | .ok (.ret u), ⟨v, H', os, bare, un, held, rv, e⟩ =>
    cases (show v = V.bl true from e)
    cases (show u = Value.bool true from rv)
    refine ⟨rfl, OldK.of_keep fun b o g => ?_, os, bare⟩
    cases c : H b with
    | none => exact un.keep b o g c (fun z => (List.not_mem_nil z).elim) (fun z => (List.not_mem_nil z).elim)
    | some u =>
      obtain ⟨rfl, _, rfl⟩ := at_ c
      rw [Option.some.inj (g.symm.trans there)]
      exact (held b _ (un.frzs b ob _ c)).1
end
/-- the goal that is left of a law whose defs ask repr -/
theorem walk_ofG {l : PySem.W.OpenLaw} {n k : Nat} {q : Program} {loose : List Str} {XP : (Str → Option Value) → Heap → Prop} {YP : World → Heap → Prop} {d : DefRec} {K : Params → PySem.W.Frag} {sp : World → Sp} {x : Str}
    (most : l.most = some n) (n9 : n ≤ sizeLine) (nodf : d.params.defaults = []) (room : Room k callerA) (inK : ∀ (w : World) (h : Heap), YP w h → (K w.params).In h)
    (F : ∀ (w : World) (mg : Str → Option Value) (fa : Addr) (h : Heap), (K w.params).In h → h.Ns mainGlobals mg → mg d.name = some (.ref fa) →
      ∃ fd : FuncData, (∀ (s : Shared) (u : Value), BindsTo s fd ⟨[u], []⟩ [(x, u)]) ∧ ∀ base : Heap, (K w.params).In base → base.Ns mainGlobals mg → FnG l.prog w (K w.params) mg base k fa fd [x] (sp w))
    (asked : ∀ (w : World) (H : Hp) (a : Addr) (ns : List Int), ns.length ≤ n → Only H → SqL (K w.params) H a (ns.map V.int) → sp w [.ref a] H (fun v _ => v = .bl true) fun _ _ _ => False) :
    PySem.W.WalkO q loose XP YP l.row.toRowW d [] (fun f vs => PySem.call f vs) :=
  Att.attach_call most nodf fun w s₀ s₁ mg mb fa o pm cd doc a vs ns G Y ho hd hcd hmg hobj hints hlen hg => by
    obtain ⟨fd, b, f⟩ := F w mg fa _ (inK w _ Y) G.T.g hmg
    exact call_law (inK w _ Y) G.T.g G.T.b G.T.builtins G.T.nolimit hg hobj hints (Nat.le_trans hlen n9) room f b fun H only sc => asked w H a ns hlen only sc
end KR
/-! ### all(test for x in ..): the generator expression's own frame, its test read like a def's body -/
namespace KR
open PySem PySem.Spec PyProof.Rows L2
/-- the frame's scope: one name of its own, nothing captured -/
structure GnS (scope : Scope) (x : Str) : Prop where
  kind : scope.kind = .function
  co : scope.isCoroutine = false
  cell : ∀ y ∈ scope.names, y.2 ≠ .cell
  free : ∀ y ∈ scope.names, y.2 ≠ .free
  dot : scope.names.lookup (".0" : Str) = some NameKind.local
  loc : scope.names.lookup x = some .local
/-- the frame's environment, its around -/
abbrev gEnv (X : Cx) (scope : Scope) (C : Addr) (code : Value) : Env := genEnv scope [] C code builtinsNs X.env
abbrev gAr (X : Cx) (ge : Expr) (it : Addr) (env : Env) : Around := X.A.in1.in1.over (.compLoop ge 0 (.ref it) .none env) []
/-- the frame's context: it began at s, H; fp: what is walked -/
abbrev gCx (X : Cx) (ge : Expr) (it : Addr) (x : Str) (s : Shared) (H : Hp) (env : Env) (fp : List Addr) : Cx :=
  { prog := X.prog, w := X.w, K := X.K, mg := X.mg, base := X.base, A := gAr X ge it env, N := [x], s_0 := s, H_0 := H, env := env, outer := X.stack, stack := env :: X.stack, ex := fp, fn := fun _ => false, calm := true, pn := [], xe := fun _ _ => False }
section
variable {X : Cx} {pins : List (Addr × Obj)} {σ : L2.St} {H : Hp} {s : Shared}
theorem inv_gens {g' : Array GenState} (I : Inv X pins σ H s) (hg : AllBare g') : Inv X pins σ H { s with gens := g' } :=
  I.call (h' := s.heap) (g' := g') (t' := s.toks) (d' := s.drawn) (ch := []) Un.refl I.hok hg fun b z => absurd z List.not_mem_nil
theorem bare_set {a : Array GenState} {g : Nat} {x : GenState} (h : AllBare a) (hx : x.bare = true) : AllBare (a.setIfInBounds g x) := fun y hy => by
  rcases Array.mem_or_eq_of_mem_setIfInBounds hy with z | z
  · exact h y z
  · rw [z]
    exact hx
theorem inv_setGen {g : Nat} {x : GenState} (I : Inv X pins σ H s) (hx : x.bare = true) : Inv X pins σ H (s.setGen g x) := inv_gens I (bare_set I.bare hx)
theorem room_gen {k : Nat} (r : Room (k + 1) X.A) {elt : Expr} {cs : List Comprehension} {sc : Scope} {p : Pos} {it : Addr} {env : Env} : Room k (gAr X (.GeneratorExp elt cs sc p) it env) := by
  obtain ⟨h1, h2, h3⟩ := r
  refine ⟨h1, ?_, ?_⟩
  · show X.A.depth + 0 + 1 + 3 * k + 5 < recursionLimit
    omega
  · show X.A.units + 1 + 1 + 0 + 3 + 16 * k + 200 < cLine
    omega
theorem gen_ok {elt : Expr} {cs : List Comprehension} {sc : Scope} {gp : Pos} {it : Addr} {x : Str} {scope : Scope} {code : Value} {fp : List Addr} (I : Inv X pins σ H s) (S : GnS scope x) (hh : X.A.handled = none) (hfp : ∀ b ∈ fp, FpOk X pins H b ∧ b < s.heap.objs.size) :
    (gCx X (.GeneratorExp elt cs sc gp) it x s H (gEnv X scope s.heap.objs.size code) fp).Ok := by
  have kd : ∀ y k, scope.names.lookup y = some k → k ≠ .cell ∧ k ≠ .free := fun y k e => ⟨S.cell _ (PySem.mem_of_lookup e), S.free _ (PySem.mem_of_lookup e)⟩
  exact {
    mod := I.ok.mod, kind := S.kind, glob := I.ok.glob, blt := rfl, above := Nat.le_refl _
    inj := fun y z c e _ => (by cases e)
    has := fun y h => (by
      rcases h with h | h
      · exact absurd rfl (kd y _ h).1
      · exact absurd rfl (kd y _ h).2)
    cab := fun y c z _ => (by cases z)
    hd := fun _ => hh
    frames := (by
      show pushEnvs [gEnv X scope s.heap.objs.size code] (pushEnvs [] X.A.frames) = _
      rw [I.ok.frames] <;> rfl)
    stk := .inr ⟨rfl, rfl⟩
    exf := fun b hb => ⟨Nat.ne_of_lt (hfp b hb).2, fun y c e => (by cases e)⟩
    bs := I.bs, bsz := Nat.le_trans I.ok.bsz I.sz
    noex := fun b o e hb => (by
      obtain ⟨_, _, _, old | old, _⟩ := (hfp b hb).1
      · exact I.ok.noex b o e old
      · have z := Heap.lt_size e
        have z2 := I.ok.bsz
        exact Nat.lt_irrefl b (Nat.lt_of_lt_of_le z (Nat.le_trans z2 old)))
    exfs := fun b hb hf => (by
      obtain ⟨⟨_, n1, n2, _⟩, _⟩ := hfp b hb
      rcases List.mem_cons.mp (I.stkSub b hf) with e | e
      · exact n1 e
      · exact n2 e)
    funs := I.stack, frf := I.stkFree }
/-- the frame as it begins: its space at C, its generator behind it -/
theorem gen_inv {elt : Expr} {cs : List Comprehension} {sc : Scope} {gp : Pos} {it : Addr} {x : Str} {scope : Scope} {code : Value} {fp : List Addr} {h' : Heap} {G : Obj} {g' : Array GenState} {tk : Nat} {m : Str → Option Value} (I : Inv X pins σ H s) (S : GnS scope x) (hh : X.A.handled = none)
    (hfp : ∀ b ∈ fp, FpOk X pins H b ∧ b < s.heap.objs.size) (hn : h'.Ns s.heap.objs.size m) (hsz : h'.objs.size = s.heap.objs.size + 1) (kp : ∀ b o, s.heap.get? b = some o → h'.get? b = some o) (hg : AllBare g') (hG : ∀ v, G.data ≠ .cell v) (hF : G.isFreed = false) :
    Inv (gCx X (.GeneratorExp elt cs sc gp) it x s H (gEnv X scope s.heap.objs.size code) fp) [(h'.objs.size, G)] [none] H { s with heap := h'.push G, gens := g', toks := tk } := by
  have kp2 : ∀ b o, s.heap.get? b = some o → (h'.push G).get? b = some o := fun b o e => Heap.get?_push_of_some _ (kp b o e)
  have gt : s.heap.objs.size ≤ h'.objs.size := by omega
  exact {
    ok := gen_ok I S hh hfp, os := rfl, bare := hg, base := Un.kept kp2
    loc := ⟨m, hn.push _, fun i y v _ e _ => (by
      match i, e with
      | 0, e => cases e
      | j + 1, e => cases e)⟩
    cell := fun y c e => (by cases e)
    free := I.hok.fresh (Nat.le_refl _)
    freeC := fun y c e => (by cases e)
    pin := fun p hp => (by
      obtain rfl := List.mem_singleton.mp (show p ∈ [(h'.objs.size, G)] from hp)
      refine ⟨Heap.get?_push_size _ hF, I.hok.fresh gt, fun z => ?_, fun z => ?_, hG⟩
      · have z2 : h'.objs.size = s.heap.objs.size := z
        omega
      · rcases List.mem_cons.mp (I.stkSub _ z) with e | e
        · have z2 := I.lt
          rw [← e] at z2
          have z3 : h'.objs.size < s.heap.objs.size := z2
          omega
        · exact I.nofs gt e)
    hok := I.hok.kept kp2, len := rfl }
end
/-- what is so between two steps of the generator, i things taken -/
def GSt (Y : Cx) (pn : List (Addr × Obj)) (tn : Nat → Heap → Prop) (fp : List Addr) (W : Nat → Hp → Prop) (i : Nat) (s : Shared) : Prop :=
  ∃ H', Inv Y pn [none] H' s ∧ tn i s.heap ∧ (∀ b ∈ fp, H' b = none) ∧ W i H'
/-- how it ends, how it hands out -/
def gFin (Y : Cx) (pn : List (Addr × Obj)) (Q : VK) (b : Bool) (s : Shared) : Prop := ∃ H', Inv Y pn [none] H' s ∧ Q (.bl b) H'
abbrev gEnd (Y : Cx) (pn : List (Addr × Obj)) (Q : VK) : GenEnd := fun _ _ r s1 => r = .ok .next ∧ gFin Y pn Q true s1
def gPro (Y : Cx) (pn : List (Addr × Obj)) (tn : Nat → Heap → Prop) (fp : List Addr) (W : Nat → Hp → Prop) (Q : VK) : Protocol := fun _ _ v s kap =>
  ∃ b : Bool, v = .bool b ∧ (b = true → ∃ i, GSt Y pn tn fp W i s ∧ ∀ s', GSt Y pn tn fp W i s' → kap (.send .none) s') ∧ (b = false → gFin Y pn Q false s)
/-- one turn's reading -/
def GTurn (J : It) (te : TE) (n : Nat) (W : Nat → Hp → Prop) (Q : VK) : Prop := ∀ i H2, W i H2 →
  (J.stop i H2 ∧ Q (.bl true) H2) ∨ (J.go i H2 ∧ i < n ∧ ∀ x H3, J.yld i H2 x H3 → te [some x] H3 fun u H4 => ∃ b, u = .bl b ∧ if b = true then W (i + 1) H4 else Q (.bl false) H4)
section
variable {X : Cx} {elt iter : Expr} {x : Str} {px gp : Pos} {sc : Scope} {it C : Addr} {s₁ : Shared} {H₁ : Hp} {code : Value} {fp : List Addr} {pn : List (Addr × Obj)} {tn : Nat → Heap → Prop} {J : It} {te : TE} {n : Nat} {W : Nat → Hp → Prop} {Q : VK}
theorem gen_seg {Y : Cx} {env : Env} (hY : Y = gCx X (.GeneratorExp elt [⟨.Name x px, iter, [], 0⟩] sc gp) it x s₁ H₁ env fp) (hco : env.scope.isCoroutine = false) (T : Turn X.prog X.w X.K (.Name x px) J fp it tn)
    (pg : PG Y (.Name x px) (gName 0)) (pe : PE Y elt te) (turn : GTurn J te n W Q) (hpn : ∀ b ∈ fp, ∀ p ∈ pn, p.1 ≠ b) :
    ∀ (m i : Nat) (s s₀ : Shared), n - i = m → GSt Y pn tn fp W i s → Seg (model X.prog X.w) X.A.in1.in1 (gEnd Y pn Q) (gPro Y pn tn fp W Q) m s₀
      (.compLoop (.GeneratorExp elt [⟨.Name x px, iter, [], 0⟩] sc gp) 0 (.ref it) .none env) ((model X.prog X.w).den (.compLoop (.GeneratorExp elt [⟨.Name x px, iter, [], 0⟩] sc gp) 0 (.ref it) .none env)) [] s := by
  have hA : Y.A = X.A.in1.in1.over (.compLoop (.GeneratorExp elt [⟨.Name x px, iter, [], 0⟩] sc gp) 0 (.ref it) .none env) [] := by rw [hY]
  have hP : Y.prog = X.prog := by rw [hY]
  have hW : Y.w = X.w := by rw [hY]
  have hK : Y.K = X.K := by rw [hY]
  have hC : Y.calm = true := by rw [hY]
  have hE : Y.env = env := by rw [hY]
  have hX : Y.ex = fp := by rw [hY]
  have hN : Y.pn = [] := by rw [hY]
  have hxe : Y.xe = fun _ _ => False := by rw [hY]
  have stat : ∀ {σ' : L2.St} {H' : Hp} {s' : Shared}, Inv Y pn σ' H' s' → (∀ b ∈ fp, H' b = none) → ∀ b ∈ fp, FpOk Y pn H' b := fun {σ' H' s'} I' hn b hb => by
    have hb2 : b ∈ Y.ex := by rw [hX]; exact hb
    refine ⟨hn b hb, (I'.ok.exf b hb2).1, I'.ok.exfs b hb2, .inl hb2, fun y c e => (I'.ok.exf b hb2).2 y c e, fun p hp => ?_⟩
    rw [hN] at hp
    exact hpn b hb p hp
  have runG := fun pins s σ H v u Q => pg.run pins s σ H v u Q
  have runE := fun pins s σ H Q => pe.run pins s σ H Q
  rw [hA, hP, hW, hE, hxe] at runG runE
  intro m
  induction m with
  | zero =>
    rintro i s s₀ hm ⟨H, I, st, nf, w⟩
    show Seg _ _ _ _ _ s₀ _ ((compTurn _ 0 (.ref it) .none env).onRaise (leaving env)) [] s
    rw [compTurn_gen, Sem.onRaise_eq_wrap]
    refine seg_bind_wrap (wpAny_standAt ?_)
    rcases turn i H w with ⟨stop, q⟩ | ⟨_, lt, _⟩
    · have td := T.done Y hP hW hK hC i pn s _ H (fun _ _ => False) I (stat I nf) st stop
      rw [hA] at td
      refine seg_bind_wrap (thnF td fun r s2 ⟨e, I2⟩ => ?_)
      rw [e]
      exact seg_end (.ok .next) ⟨rfl, H, I2, q⟩
    · exact absurd lt (by omega)
  | succ m ih =>
    rintro i s s₀ hm ⟨H, I, st, nf, w⟩
    show Seg _ _ _ _ _ s₀ _ ((compTurn _ 0 (.ref it) .none env).onRaise (leaving env)) [] s
    rw [compTurn_gen, Sem.onRaise_eq_wrap]
    refine seg_bind_wrap (wpAny_standAt ?_)
    rcases turn i H w with ⟨stop, q⟩ | ⟨go, lt, step⟩
    · have td := T.done Y hP hW hK hC i pn s _ H (fun _ _ => False) I (stat I nf) st stop
      rw [hA] at td
      refine seg_bind_wrap (thnF td fun r s2 ⟨e, I2⟩ => ?_)
      rw [e]
      exact seg_end (.ok .next) ⟨rfl, H, I2, q⟩
    · have ti := T.item Y hP hW hK hC i pn s _ H (fun _ _ => False) I (stat I nf) st go
      rw [hA] at ti
      refine seg_bind_wrap (thnF ti fun r s2 ⟨u, e, h2⟩ => ?_)
      rw [e]
      refine seg_bind_wrap (thnF h2 fun _ s3 ⟨y, H3, I3, r3, y3, st3, n3⟩ => ?_)
      have I3' := I3.pinned (stat I3 n3) (T.obj _ _ st3)
      refine seg_bind_wrap (thnF (runG _ s3 _ H3 y u _ I3' r3 (show gName 0 y [none] H3 (fun σ' H' => σ' = [some y] ∧ H' = H3) from ⟨rfl, rfl⟩)) fun _ s4 ⟨σ4, H4, I4, e4, e5⟩ => ?_)
      subst e4 e5
      refine seg_bind_wrap (wpAny_tests_nil ?_)
      simp only [if_true]
      have yo : ∀ v, yieldOut env v = yieldValue v := fun v => by
        unfold yieldOut
        rw [hco] <;> rfl
      simp only [yo]
      rw [Sem.bind_eq_wrap', Sem.bind_eq_wrap', Sem.wrap_wrap, Sem.wrap_wrap]
      refine seg_wrap (thnF (runE _ s4 _ _ _ I4 (step y _ y3)) fun v s5 ⟨yv, H5, I5, r5, b, e5, q5⟩ => ?_)
      subst e5
      obtain rfl : v = Value.bool b := r5
      have pin' : ∀ b ∈ fp, ∀ o, s3.heap.get? b = some o → s5.heap.get? b = some o ∧ H5 b = none := fun b hb o e =>
        let z := I5.pin (b, o) (List.mem_append_right _ (List.mem_append_right _ (mem_pinsAt hb e)))
        ⟨z.1, z.2.1⟩
      have I6 : Inv Y pn [none] H5 s5 := I5.unpinned.weak rfl fun j v e => by
        match j, e with
        | 0, e => cases e
        | j + 1, e => cases e
      have done : W (i + 1) H5 → GSt Y pn tn fp W (i + 1) s5 := fun w5 => ⟨H5, I6, T.keep _ _ _ st3 fun b hb o e => (pin' b hb o e).1, fun b hb => (by
        obtain ⟨o, e, _⟩ := T.obj _ _ st3 b hb
        exact (pin' b hb o e).2), w5⟩
      refine seg_at (seg_yield rfl rfl rfl ⟨b, rfl, fun hb => ?_, fun hb => ?_⟩)
      · rw [if_pos hb] at q5
        exact ⟨i + 1, done q5, fun s' hj => seg_again rfl (ih (i + 1) s' s' (by omega) hj)⟩
      · rw [if_neg (by rw [hb]; exact Bool.false_ne_true)] at q5
        exact ⟨H5, I6, q5⟩
/-- the generator at a, its number g: what it does next -/
def GAt (M : Model) (A : Around) (Y : Cx) (pn : List (Addr × Obj)) (tn : Nat → Heap → Prop) (fp : List Addr) (W : Nat → Hp → Prop) (Q : VK) (g m : Nat) (s : Shared) : Prop :=
  ∃ i gs, GSt Y pn tn fp W i s ∧ s.gens[g]? = some gs ∧ ∀ s', GSt Y pn tn fp W i s' → gs.Goes M A (gEnd Y pn Q) (gPro Y pn tn fp W Q) m (.send .none) s'
theorem gst_set {Y : Cx} {i g : Nat} {s : Shared} {y : GenState} (h : GSt Y pn tn fp W i s) (hy : y.bare = true) : GSt Y pn tn fp W i (s.setGen g y) := by
  obtain ⟨H', I, r⟩ := h
  exact ⟨H', inv_setGen I hy, r⟩
theorem fin_set {Y : Cx} {g : Nat} {s : Shared} {y : GenState} {b : Bool} (h : gFin Y pn Q b s) (hy : y.bare = true) : gFin Y pn Q b (s.setGen g y) := by
  obtain ⟨H', I, r⟩ := h
  exact ⟨H', inv_setGen I hy, r⟩
theorem fin_kept {Y : Cx} {s : Shared} {b : Bool} {h' : Heap} (h : gFin Y pn Q b s) (k : ∀ b o, s.heap.get? b = some o → h'.get? b = some o) : gFin Y pn Q b { s with heap := h' } := by
  obtain ⟨H', I, r⟩ := h
  exact ⟨H', I.kept (t' := s.toks) k, r⟩
theorem set_at {s : Shared} {g : Nat} {y : GenState} (h : g + 1 ≤ (s.setGen g y).gens.size) : (s.setGen g y).gens[g]? = some y := by
  have z : g < s.gens.size := by
    have e : (s.setGen g y).gens.size = s.gens.size := Array.size_setIfInBounds
    omega
  show (s.gens.setIfInBounds g y)[g]? = some y
  rw [Array.getElem?_setIfInBounds, if_pos rfl, if_pos z]
theorem all_run {Y : Cx} {a : Addr} {g : Nat} {G : Obj} {R : Result → Shared → Prop} (hp : (a, G) ∈ pn) (hG : ∀ h : Heap, h.get? a = some G → h.IsGen a g) (hh : X.A.handled = none) (hd : X.A.depth + 2 < recursionLimit)
    (hR : ∀ b s', gFin Y pn Q b s' → R (.ok (.ret (.bool b))) s') :
    ∀ (m : Nat) (s : Shared), GAt (model X.prog X.w) X.A.in1.in1 Y pn tn fp W Q g m s → codeAny (model X.prog X.w) X.A (.builtin "all.loop" ⟨[.ref a], []⟩) R s := by
  have turn : ∀ (m : Nat) (s : Shared), GAt (model X.prog X.w) X.A.in1.in1 Y pn tn fp W Q g m s →
      (∀ s', (∃ k, m = k + 1 ∧ GAt (model X.prog X.w) X.A.in1.in1 Y pn tn fp W Q g k s') → codeAny (model X.prog X.w) X.A (.builtin "all.loop" ⟨[.ref a], []⟩) R s') → codeAny (model X.prog X.w) X.A (.builtin "all.loop" ⟨[.ref a], []⟩) R s := by
    rintro m s ⟨i, gs, st, hgs, goes⟩ next
    obtain ⟨H, I, _⟩ := id st
    have gen : s.heap.IsGen a g := hG _ (I.pin (a, G) (List.mem_append_right _ hp)).1
    have hgl : g + 1 ≤ s.gens.size := (Array.getElem?_eq_some_iff.mp hgs).1
    refine codeAny_builtin (F.entry_all_loop) ?_
    rw [Around.under_plainId (F.plain_all_loop) _]
    show wpAny (model X.prog X.w) X.A.in1 (pyNext (.ref a) >>= _) _ _ s
    refine wpAny_bind (GenW.wpAny_gsz (n := g + 1) hgl (wpAny_pyNext_genexpQ (n := m) (P := fun _ _ s1 => gFin Y pn Q true s1) (Y := gPro Y pn tn fp W Q) hh I.nolimit (by show X.A.depth < recursionLimit; omega) gen hgs (goes _ (gst_set st rfl)) (fun v s1 gs' hb hv => ?_) (fun s1 hf h' hk => ?_)))
    · intro hgl2
      obtain ⟨b, rfl, yes, no⟩ := hv
      refine wpAny_bind (wpAny_holding (wpAny_truthy_bool ?_))
      refine wpAny_bind (wpAny_letGo ?_)
      cases b with
      | true =>
        obtain ⟨i2, st2, kap⟩ := yes rfl
        simp only [if_true]
        cases m with
        | zero => exact (kap s1 st2).elim
        | succ k => exact wpAny_pure ⟨plainId_quiet (F.plain_all_loop) _, next _ ⟨k, rfl, i2, gs', gst_set st2 hb, set_at hgl2, fun s' h => kap s' h⟩⟩
      | false =>
        simp only [Bool.false_eq_true, if_false]
        exact wpAny_bind (wpAny_rule (wpAny_pure (hR false _ (fin_set (no rfl) hb))))
    · intro _
      refine wpAny_bind (wpAny_rule (wpAny_pure ?_))
      exact hR true _ (fin_kept (fin_set hf rfl) hk)
  intro m
  induction m with
  | zero => exact fun s h => turn 0 s h fun s' ⟨k, e, _⟩ => (by cases e)
  | succ m ih => exact fun s h => turn (m + 1) s h fun s' ⟨k, e, z⟩ => ih s' (by cases e; exact z)
end
/-- .. in the def: the table of the def's code may have grown ahead of it -/
def tAllG (P : Addr) (wi : TI) (te : TE) : TE := fun σ H Q => wi σ H fun J H1 => GxR.TabG H1 P ∧ ∃ (n : Nat) (W : Nat → Hp → Prop), (∀ H2, GxR.Tabbed P H1 H2 → W 0 H2) ∧ GTurn J te n W Q
theorem gen_den {X : Cx} {elt iter : Expr} {x : Str} {px gp : Pos} {sc : Scope} {it : Addr} {env : Env} {fp : List Addr} {pn : List (Addr × Obj)} {tn : Nat → Heap → Prop} {W : Nat → Hp → Prop} {Q : VK} {Y : Cx} {J : It} {n : Nat} (T : Turn X.prog X.w X.K (.Name x px) J fp it tn)
    (loop : ∀ (s s₀ : Shared), GSt Y pn tn fp W 0 s → Seg (model X.prog X.w) X.A.in1.in1 (gEnd Y pn Q) (gPro Y pn tn fp W Q) n s₀ (.compLoop (.GeneratorExp elt [⟨.Name x px, iter, [], 0⟩] sc gp) 0 (.ref it) .none env)
      ((model X.prog X.w).den (.compLoop (.GeneratorExp elt [⟨.Name x px, iter, [], 0⟩] sc gp) 0 (.ref it) .none env)) [] s) (s s₀ : Shared) (st : GSt Y pn tn fp W 0 s) :
    Seg (model X.prog X.w) X.A.in1.in1 (gEnd Y pn Q) (gPro Y pn tn fp W Q) n s₀ (.compStart (.GeneratorExp elt [⟨.Name x px, iter, [], 0⟩] sc gp) 0 (.ref it) .none env)
      ((model X.prog X.w).den (.compStart (.GeneratorExp elt [⟨.Name x px, iter, [], 0⟩] sc gp) 0 (.ref it) .none env)) [] s := by
  have go := loop s s₀ st
  obtain ⟨H', I, st0, _⟩ := id st
  show Seg _ _ _ _ _ s₀ _ ((compStart _ 0 (.ref it) .none env).onRaise (leaving env)) [] s
  unfold compStart
  rw [Sem.onRaise_eq_wrap]
  show Seg _ _ _ _ _ s₀ _ ((ask >>= _).wrap _ _ _ _) [] s
  refine seg_bind_wrap (wpAny_askSetting ?_)
  split
  · exact seg_again rfl go
  · refine seg_bind_wrap (wpAny_rule ?_)
    show Seg _ _ _ _ _ s₀ _ ((standAt iter.pos >>= _).wrap _ _ _ _) [] s
    refine seg_bind_wrap (wpAny_standAt (seg_bind_wrap ?_))
    exact T.self _ 0 s _ _ st0 (seg_again rfl go)
theorem no_clo {cells : List (Str × Addr)} : ∀ (l : List (Str × NameKind)), (∀ y ∈ l, y.2 ≠ .free) → cloFrom cells l [] = []
  | [], _ => rfl
  | (n, k) :: r, h => by
    have z := no_clo (cells := cells) r fun y hy => h y (List.mem_cons_of_mem _ hy)
    have hk : k ≠ .free := h (n, k) List.mem_cons_self
    unfold cloFrom
    cases k <;> first | exact z | exact absurd rfl hk
theorem pe_allG {X : Cx} {c P : Addr} {elt iter : Expr} {x : Str} {px p pos gp : Pos} {scope : Scope} {wi : TI} {te : TE} {k : Nat}
    (hr : Room k X.A) (hg : Gl X "all") (hm : X.mg "all" = none) (hb : bootBuiltins "all" = some (.builtin "all")) (TB : GxR.TabB X.base X.mg c P) (hcode : X.env.code = .ref c) (S : GnS scope x) (hi : PI X (.Name x px) iter wi)
    (hel : ∀ (it C : Addr) (s : Shared) (H : Hp) (code : Value) (fp : List Addr), PE (gCx X (.GeneratorExp elt [⟨.Name x px, iter, [], 0⟩] scope gp) it x s H (gEnv X scope C code) fp) elt te)
    (hs : ∀ v, genFold iter X.env v = pure v)
    (he : starEach [.GeneratorExp elt [⟨.Name x px, iter, [], 0⟩] scope gp] X.env = (false, eval (.GeneratorExp elt [⟨.Name x px, iter, [], 0⟩] scope gp) X.env) :: starEach [] X.env := by rfl) :
    PE X (.Call (.Name "all" p) [.GeneratorExp elt [⟨.Name x px, iter, [], 0⟩] scope gp] [] pos) (tAllG P wi te) := by
  have dep := hr.dp
  refine ⟨fun pins s σ H Q I h => ?_⟩
  refine wpAny_Call_Name_kw (ld_blt I hg hm hb ?_)
  refine PyProof.Rows.callWith_builtin1 ?_ he (by rfl)
  rw [he]
  refine Calls.spliced_cons (wpAny_GeneratorExp_make (cl := []) S.co ?_ S.cell S.dot S.kind (by omega) ?_ hs)
  · rw [closure_ok (fun y hy e => absurd e (S.free y hy)), no_clo _ S.free]
  refine thn (hi.run pins s σ H _ I h) fun xv s1 hx => thn hx fun itv s2 ⟨it, fp, tn, J, H2, e, I2, T, st2, f2, TG, n, W, w0, turn⟩ => ⟨I2.nolimit, ?_⟩
  subst e
  obtain ⟨ps, hP, ht⟩ := TG
  have hPs : s2.heap.get? P = some { cls := .none, data := .fields ps } := I2.hok P _ hP
  have cd : PySem.W.CodeHd s2.heap c P := TB.code.keeps I2.bk
  have fpP : ∀ b ∈ fp, b ≠ P := fun b hb z => by
    have q := (f2 b hb).1
    rw [z, hP] at q
    cases q
  have cont : ∀ (code : Value) (h3 : Heap) (tk : Nat) (ps' : Array Value), Heap.ExtBut P s2.heap h3 → s2.heap.objs.size ≤ h3.objs.size → h3.get? P = some { cls := .none, data := .fields ps' } → (∃ more, ps' = ps ++ more) → TriplesOk ps'.toList →
      wpAny (model X.prog X.w) X.A (builtinsFor X.env.globals X.env.builtins) (fun bi s₄ => ∀ h', h'.Ns s₄.heap.objs.size (fun y => if y = ".0" then some (.ref it) else none) →
        Heap.SameBut s₄.heap.objs.size (s₄.heap.push { cls := .type "frame", data := .dict #[] }) h' → wpAny (model X.prog X.w) X.A (spliced (backTo pos (starEach [] X.env))) (fun us s' => wpAny (model X.prog X.w) X.A (call (.builtin "all") (.ref h'.objs.size :: us)) (EP X pins σ Q) X.xe s') X.xe
          { s₄ with gens := s₄.gens.push (.fresh (.compStart (.GeneratorExp elt [⟨.Name x px, iter, [], 0⟩] scope gp) 0 (.ref it) .none (genEnv scope [] s₄.heap.objs.size code bi X.env))), toks := s₄.toks + 1 + 1 + 1,
                    heap := h'.push { cls := .type "generator", data := .fields #[.int s₄.gens.size 0, .str "<genexpr>" (s₄.toks + 1), .str (X.env.qual ++ "<genexpr>") (s₄.toks + 1 + 1)] } }) X.xe { s2 with heap := h3, toks := tk } := by
    intro code h3 tk ps' hx hsz hP3 hmore ht3
    obtain ⟨bm, ob, e1, e2, e3, e4, e5, e6, e7, e8⟩ := TB.bm
    have keep3 : ∀ b u, b ≠ P → s2.heap.get? b = some u → h3.get? b = some u := fun b u hb e => hx b u hb e
    refine wpAny_builtinsFor (m := X.mg) (by rw [I2.ok.glob]; exact (I2.mod.glob.keeps I2.bk).extBut hx TB.gP) e1 e2 (keep3 _ _ e4 (I2.bk _ _ e5)) e6 e7 e8 ?_
    obtain ⟨more, em⟩ := hmore
    have I4 := GxR.inv_tab (more := more) (h' := h3) (g' := s2.gens) (d' := s2.drawn) (t' := tk) I2 hP (fun b u hb e => keep3 b u hb e) (by rw [← em]; exact hP3) I2.bare
    generalize hs4 : ({ s2 with heap := h3, toks := tk } : Shared) = s4 at I4 ⊢
    have h4 : s4.heap = h3 := by rw [← hs4]
    have tabbed : GxR.Tabbed P H2 (upd H2 P (.tbl (ps ++ more))) := ⟨⟨_, upd_same, by rw [← em]; exact ht3⟩, fun b hb => upd_ne hb⟩
    generalize upd H2 P (.tbl (ps ++ more)) = H4 at I4 tabbed
    have lt4 : ∀ b ∈ fp, b < s4.heap.objs.size := fun b hb => by
      obtain ⟨o, e, _⟩ := T.obj _ _ st2 b hb
      have z := Heap.lt_size e
      rw [h4]
      exact Nat.lt_of_lt_of_le z hsz
    have f4 : ∀ b ∈ fp, FpOk X pins H4 b ∧ b < s4.heap.objs.size := fun b hb => ⟨⟨(tabbed.2 b (fpP b hb)).trans (f2 b hb).1, (f2 b hb).2⟩, lt4 b hb⟩
    intro h' hn' hs'
    have sz' : h'.objs.size = s4.heap.objs.size + 1 := by rw [hs'.1, Heap.size_push]
    have kp : ∀ b o, s4.heap.get? b = some o → h'.get? b = some o := fun b o e => hs'.extBut b o (Nat.ne_of_lt (Heap.lt_size e)) (Heap.get?_push_of_some _ e)
    generalize hG : ({ cls := .type "generator", data := .fields #[.int s4.gens.size 0, .str "<genexpr>" (s4.toks + 1), .str (X.env.qual ++ "<genexpr>") (s4.toks + 1 + 1)] } : Obj) = G
    have IG := gen_inv (elt := elt) (cs := [⟨.Name x px, iter, [], 0⟩]) (sc := scope) (gp := gp) (it := it) (code := code) (G := G) (g' := s4.gens.push (.fresh (.compStart (.GeneratorExp elt [⟨.Name x px, iter, [], 0⟩] scope gp) 0 (.ref it) .none (gEnv X scope s4.heap.objs.size code)))) (tk := s4.toks + 1 + 1 + 1)
      I4 S hr.hd f4 hn' sz' kp (I4.bare.push rfl) (fun v z => by rw [← hG] at z; cases z) (by rw [← hG] <;> rfl)
    have st5 : tn 0 (h'.push G) := T.keep _ _ _ st2 fun b hb o e => Heap.get?_push_of_some _ (kp b o (by rw [h4]; exact keep3 b o (fpP b hb) e))
    refine Calls.spliced_nil ?_
    have isG : ∀ hp : Heap, hp.get? h'.objs.size = some G → hp.IsGen h'.objs.size s4.gens.size := fun hp e => ⟨G, _, _, e, by rw [← hG], by rw [← hG], by rw [← hG]⟩
    have hpn : ∀ b ∈ fp, ∀ p ∈ [(h'.objs.size, G)], p.1 ≠ b := fun b hb p hp z => by
      obtain rfl := List.mem_singleton.mp hp
      have q : b < s4.heap.objs.size := lt4 b hb
      have z2 : h'.objs.size = b := z
      rw [← z2, sz'] at q
      exact Nat.lt_irrefl _ (Nat.lt_of_succ_lt q)
    have loop := gen_seg (elt := elt) (iter := iter) (px := px) (gp := gp) (sc := scope) (Q := Q) (tn := tn) (n := n) rfl S.co T (pg_name (X := gCx X (.GeneratorExp elt [⟨.Name x px, iter, [], 0⟩] scope gp) it x s4 H4 (gEnv X scope s4.heap.objs.size code) fp) (List.nodup_cons.mpr ⟨List.not_mem_nil, List.nodup_nil⟩) rfl (.inl S.loc) (.inr S.loc))
      (hel it s4.heap.objs.size s4 H4 code fp) turn hpn
    refine call_function_tree (F.kind_all) (F.plain_all) (F.entry_all) (F.args_all1 _) ?_
    unfold Builtin.«all»
    refine wpAny_bind (m := oneArg "all" _) (wpAny_pure ?_)
    refine wpAny_bind (wpAny_pyIter_gen (isG _ (IG.pin (h'.objs.size, G) (List.mem_singleton.mpr rfl)).1) ?_)
    refine wpAny_pure ⟨plainId_quiet (F.plain_all_loop) _, all_run (pn := [(h'.objs.size, G)]) (tn := tn) (fp := fp) (W := W) (Q := Q) (List.mem_singleton.mpr rfl) isG hr.hd (by omega) (fun b s' hf => ?_) n _ ⟨0, _, ⟨H4, IG, st5, fun b hb => (f4 b hb).1.1, w0 H4 tabbed⟩, Array.getElem?_push_size .., fun s' hst => ⟨rfl, gen_den T (fun s s₀ q => loop n 0 s s₀ (Nat.sub_zero n) q) s' s' hst⟩⟩⟩
    obtain ⟨H', IY, q⟩ := hf
    have J := I4.call' (ch := fp) IY.os IY.base IY.hok IY.bare fun b hb => ⟨(f4 b hb).1.2.2.2.1, (f4 b hb).1.2.1, (f4 b hb).1.2.2.2.2.1, (f4 b hb).1.2.2.2.2.2⟩
    exact ⟨.bl b, H', J, rfl, q⟩
  cases hf : codeAmong gp ps.toList with
  | none =>
    refine wpAny_genexprCodeX hcode (cd.code hPs ht) (cd.tab hPs) hf fun c' h' tk hx hge hlt hco' _ htab' _ => ?_
    obtain ⟨o1, vs, f1, tf, fl, tg, inF, tx, tt, op, _, _, _, _, _, _, _, _, _, htr, _⟩ := hco'
    exact cont _ h' tk _ hx (Nat.le_trans hge (Nat.le_of_lt hlt)) htab'.2 ⟨_, rfl⟩ htr
  | some cv =>
    refine wpAny_genexprCode_hit hcode (cd.code hPs ht) hf ?_
    exact cont cv s2.heap s2.toks ps (Heap.ExtBut.refl _ _) (Nat.le_refl _) hPs ⟨#[], by simp⟩ ht
end KR
/-! ### defs whose code has a table (a generator expression stands in them): what is kept around their calls, and the law's end with such tables -/
namespace KR
open PySem PySem.Spec PyProof.Rows L2
/-- what was tracked is as it was; tables may have grown -/
structure Sm (H H' : Hp) : Prop where
  keep : ∀ b o, H b = some o → (∀ q, o ≠ .tbl q) → H' b = some o
  tab : ∀ b, GxR.TabG H b → GxR.TabG H' b
theorem tab_at {H : Hp} {b : Addr} (h : GxR.TabG H b) : ∃ q, H b = some (.tbl q) := h.elim fun q z => ⟨q, z.1⟩
theorem Sm.refl {H : Hp} : Sm H H := ⟨fun _ _ h _ => h, fun _ h => h⟩
theorem Sm.trans {H H1 H2 : Hp} (a : Sm H H1) (b : Sm H1 H2) : Sm H H2 := ⟨fun c o h n => b.keep c o (a.keep c o h n) n, fun c h => b.tab c (a.tab c h)⟩
theorem Sm.of {H H1 : Hp} (a : Same H H1) : Sm H H1 := ⟨fun c o h _ => a c o h, fun c ⟨q, e, t⟩ => ⟨q, a _ _ e, t⟩⟩
theorem Sm.tabbed {H H1 : Hp} {P : Addr} (a : GxR.Tabbed P H H1) (h : GxR.TabG H P) : Sm H H1 := by
  obtain ⟨q, e, _⟩ := h
  refine ⟨fun c o h n => ?_, fun c ⟨q2, e2, t2⟩ => ?_⟩
  · have ne : c ≠ P := fun z => by
      rw [z, e] at h
      exact n q (Option.some.inj h).symm
    rw [a.2 c ne]
    exact h
  · by_cases z : c = P
    · rw [z]
      exact a.1
    · exact ⟨q2, (a.2 c z).trans e2, t2⟩
theorem Sm.tup {K : PySem.W.Frag} {H H' : Hp} {a : Addr} {xs : List V} (e : Sm H H') (h : SqT K H a xs) : SqT K H' a xs := by
  rcases h with (h | ⟨o, h⟩) | h
  · exact .inl (.inl (e.keep _ _ h nofun))
  · exact .inl (.inr ⟨o, e.keep _ _ h nofun⟩)
  · exact .inr h
theorem Sm.seq {K : PySem.W.Frag} {H H' : Hp} {a : Addr} {xs : List V} (e : Sm H H') (h : SqL K H a xs) : SqL K H' a xs := by
  rcases h with (h | ⟨o, h⟩) | h
  · exact .inl (.inl (e.keep _ _ h nofun))
  · exact .inl (.inr ⟨o, e.keep _ _ h nofun⟩)
  · exact .inr h
theorem Sm.lst {H H' : Hp} {a : Addr} {xs : List V} (e : Sm H H') (h : H a = some (.lst xs)) : H' a = some (.lst xs) := e.keep _ _ h nofun
theorem BoxAt.sm {H H' : Hp} {p : Addr} {n : Nat} (h : BoxAt H p n) (s : Sm H H') : BoxAt H' p n := by
  obtain ⟨a, b, c, h1, h2⟩ := h
  exact ⟨a, b, c, s.lst h1, h2⟩
/-- .. but the box p -/
structure Fs (p : Addr) (H H' : Hp) : Prop where
  keep : ∀ b o, b ≠ p → H b = some o → (∀ q, o ≠ .tbl q) → H' b = some o
  tab : ∀ b, b ≠ p → GxR.TabG H b → GxR.TabG H' b
theorem Fs.refl {p : Addr} {H : Hp} : Fs p H H := ⟨fun _ _ _ h _ => h, fun _ _ h => h⟩
theorem Fs.trans {p : Addr} {H H1 H2 : Hp} (a : Fs p H H1) (b : Fs p H1 H2) : Fs p H H2 := ⟨fun c o e h n => b.keep c o e (a.keep c o e h n) n, fun c e h => b.tab c e (a.tab c e h)⟩
theorem Fs.of {p : Addr} {H H1 : Hp} (a : Fr p H H1) : Fs p H H1 := ⟨fun c o e h _ => a c o e h, fun c e ⟨q, g, t⟩ => ⟨q, a _ _ e g, t⟩⟩
theorem Fs.sm {p : Addr} {H H1 : Hp} (a : Sm H H1) : Fs p H H1 := ⟨fun c o _ h n => a.keep c o h n, fun c _ h => a.tab c h⟩
/-- so many tables are there -/
def Tbs (Ps : List Addr) (H : Hp) : Prop := ∀ P ∈ Ps, GxR.TabG H P
theorem Tbs.sm {Ps : List Addr} {H H' : Hp} (h : Tbs Ps H) (s : Sm H H') : Tbs Ps H' := fun P hP => s.tab P (h P hP)
theorem Tbs.fs {Ps : List Addr} {p : Addr} {H H' : Hp} {xs : List V} (h : Tbs Ps H) (hp : H p = some (.lst xs)) (s : Fs p H H') : Tbs Ps H' := fun P hP => s.tab P (fun z => by
  obtain ⟨q, e⟩ := tab_at (h P hP)
  rw [z, hp] at e
  cases e) (h P hP)
theorem box_lst {H : Hp} {p : Addr} {n : Nat} (h : BoxAt H p n) : ∃ xs, H p = some (.lst xs) := by
  obtain ⟨a, b, c, h1, _⟩ := h
  exact ⟨_, h1⟩
theorem Tbs.fr {Ps : List Addr} {p : Addr} {n : Nat} {H H' : Hp} (h : Tbs Ps H) (B : BoxAt H p n) (f : Fr p H H') : Tbs Ps H' := (box_lst B).elim fun _ e => h.fs e (.of f)
theorem Tbs.same {Ps : List Addr} {H H' : Hp} (h : Tbs Ps H) (s : Same H H') : Tbs Ps H' := h.sm (.of s)
/-- what is written into a list of the def's own touches no table -/
theorem Tbs.put {Ps : List Addr} {H : Hp} {D : Addr} {xs ys : List V} (h : Tbs Ps H) (hd : H D = some (.lst xs)) : Tbs Ps (upd H D (.lst ys)) := h.fs hd (.of fr_updL)
where fr_updL : Fr D H (upd H D (.lst ys)) := fun b o n e => by rw [upd_ne n]; exact e
theorem Sm.put {H0 H : Hp} {D : Addr} {o : HO} (s : Sm H0 H) (h : H0 D = none) : Sm H0 (upd H D o) :=
  ⟨fun b u e n => by rw [upd_ne (ne_of_none e h)]; exact s.keep b u e n, fun b ⟨q, e, t⟩ => by
    obtain ⟨q2, e2, t2⟩ := s.tab b ⟨q, e, t⟩
    exact ⟨q2, by rw [upd_ne (ne_of_none e h)]; exact e2, t2⟩⟩
/-- a def of the text whose code object is known -/
structure FunC (K : PySem.W.Frag) (x qual : Str) (st : Stmt) (f : Addr) (fd : FuncData) (c : Addr) : Prop where
  ex : ∃ (oc : Value) (od : Option Addr) (kV doc pm : Value) (an : Option Addr) (ct : Value) (osl : Array (Option Value)),
    fd = PySem.W.fnOf x qual (defArgs st) (defBody st) (defScope st) .none kV doc pm an (.ref c) ct ∧ K.lookup f = some ⟨oc, od, .func fd, osl⟩ ∧ PySem.W.codeIn K (.ref c) qual = true
theorem funC_mk {K : PySem.W.Frag} {x qual : Str} {st : Stmt} {f c : Addr} {oc : Value} {od an : Option Addr} {osl : Array (Option Value)} {kV doc pm ct : Value} (l : K.lookup f = some ⟨oc, od, .func (PySem.W.fnOf x qual (defArgs st) (defBody st) (defScope st) .none kV doc pm an (.ref c) ct), osl⟩)
    (h : PySem.W.codeIn K (.ref c) qual = true) : FunC K x qual st f (PySem.W.fnOf x qual (defArgs st) (defBody st) (defScope st) .none kV doc pm an (.ref c) ct) c := ⟨⟨oc, od, kV, doc, pm, an, ct, osl, rfl, l, h⟩⟩
section
variable {P : Program} {w : World} {K : PySem.W.Frag} {mg : Str → Option Value} {base : Heap}
theorem FunC.ok {x qual : Str} {st : Stmt} {f c : Addr} {fd : FuncData} {N ps : List Str} {k : Nat} {sp : Sp} (F : FunC K x qual st f fd c) (S : FnScope N ps (defScope st)) (len : ∀ vs H Q E, sp vs H Q E → vs.length = ps.length)
    (body : ∀ (cdv : Value) (A : Around) (outer : List Env) (s : Shared) (H : Hp) (vs : List V) (Q : VK) (E : XK), cdv = .ref c → Room k (A.deeper (envOfC qual (defScope st) s.heap.objs.size f cdv)) → sp vs H Q E →
      ∃ t, PSs (cxOf CX0 P w K mg base N qual (defScope st) f cdv A outer s H E).nox (defBody st) t ∧ t { nx := fun _ H' => Q .non H', rt := Q } (start N vs) H) : FnOk P w K mg base CX0 (k + 1) f fd ps sp := by
  obtain ⟨_, _, _, _, _, _, _, _, rfl, lk, hcd⟩ := F.ex
  exact fn_of lk hcd S len fun A outer s H vs Q E hr hsp => (body (.ref c) A outer s H vs Q E rfl hr hsp).elim fun t z => ⟨t, z.1.nox, z.2⟩
end
section
variable {P : Program} {w : World} {K : PySem.W.Frag} {mg mb : Str → Option Value} {k : Nat} {fa a : Addr} {fd : FuncData} {x : Str} {sp : Sp} {s₁ : Shared} {vs : List Value} {ns : List Int}
/-- what is tracked when the law is called: the script and the tables -/
def scrT (K : PySem.W.Frag) (a : Addr) (ob : Obj) (ns : List Int) (Ps : List Addr) : Hp := fun b => if b ∈ Ps then some (.tbl #[]) else scr K a ob ns b
theorem scrT_some {ob : Obj} {Ps : List Addr} {b : Addr} {u : HO} (h : scrT K a ob ns Ps b = some u) : (b ∈ Ps ∧ u = .tbl #[]) ∨ (b ∉ Ps ∧ b = a ∧ K.lookup a = none ∧ u = .frz ob (.lst (ns.map V.int))) := by
  unfold scrT at h
  split at h
  · rename_i c
    exact .inl ⟨c, (Option.some.inj h).symm⟩
  · rename_i c
    exact .inr ⟨c, scr_some h⟩
abbrev eob : Obj := { cls := .none, data := .fields #[] }
theorem call_lawT {cs : List (Addr × Addr)} (inK : K.In s₁.heap) (gl : s₁.heap.Ns mainGlobals mg) (bl : s₁.heap.Ns builtinsNs mb) (boot : ∀ x : Str, x ≠ "__name__" → mb x = bootBuiltins x) (lim : s₁.heap.NoLimit) (quiet : s₁.gens = #[])
    (empty : ∀ p ∈ cs, s₁.heap.get? p.2 = some eob) (noK : ∀ p ∈ cs, K.lookup p.2 = none) (head : ∀ p ∈ cs, PySem.W.CodeHd s₁.heap p.1 p.2)
    (bmain : ∃ (bm : Addr) (ob : Obj), mg "__builtins__" = some (.ref bm) ∧ bm ≠ builtinsNs ∧ s₁.heap.get? bm = some ob ∧ ob.cls = .type "module" ∧ ob.dict = some builtinsNs ∧ ob.data = .plain)
    (there : s₁.heap.get? a = some { cls := .type "list", data := .seq vs.toArray }) (areInts : IntsAre vs ns) (len : ns.length ≤ sizeLine) (room : Room k callerA)
    (F : ∀ base : Heap, K.In base → base.Ns mainGlobals mg → (∀ p ∈ cs, GxR.TabB base mg p.1 p.2) → FnG P w K mg base k fa fd [x] sp) (binds : ∀ (s : Shared) (u : Value), BindsTo s fd ⟨[u], []⟩ [(x, u)])
    (asked : ∀ H : Hp, Tbs (cs.map (·.2)) H → SqL K H a (ns.map V.int) → sp [.ref a] H (fun v _ => v = .bl true) fun _ _ _ => False) :
    codeAny (model P w) callerA (.call (.ref fa) ⟨[.ref a], []⟩) (fun r s' => r = .ok (.ret (.bool true)) ∧ OldK s₁.heap s'.heap ∧ s'.os = s₁.os ∧ AllBare s'.gens) s₁ := by
  let ob : Obj := { cls := .type "list", data := .seq vs.toArray }
  let Ps := cs.map (·.2)
  let H := scrT K a ob ns Ps
  have at_ : ∀ {b u}, H b = some u → (b ∈ Ps ∧ u = .tbl #[]) ∨ (b ∉ Ps ∧ b = a ∧ K.lookup a = none ∧ u = .frz ob (.lst (ns.map V.int))) := scrT_some
  have isT : ∀ b ∈ Ps, s₁.heap.get? b = some eob := fun b hb => by
    obtain ⟨p, hp, e⟩ := List.mem_map.mp hb
    rw [← e]
    exact empty p hp
  have aT : a ∉ Ps := fun z => by
    have q := Option.some.inj ((isT a z).symm.trans there)
    have q2 : Data.fields #[] = Data.seq vs.toArray _ := congrArg Obj.data q
    cases q2
  have no : ∀ b o, s₁.heap.get? b = some o → (∀ q n, o.data ≠ .seq q n) → o.data ≠ .fields #[] → H b = none := fun b o e d1 d2 => by
    cases c : H b with
    | none => rfl
    | some u =>
      rcases at_ c with ⟨hb, _⟩ | ⟨_, rfl, _⟩
      · have q := Option.some.inj (e.symm.trans (isT b hb))
        exact absurd (by rw [q]) d2
      · have q := Option.some.inj (e.symm.trans there)
        exact absurd (by rw [q]) (d1 vs.toArray _)
  have keepNs : ∀ {b : Addr} {m : Str → Option Value}, s₁.heap.Ns b m → (hidT s₁.heap H).Ns b m := fun {b m} ⟨o, es, ep, e, d, r⟩ =>
    ⟨o, es, ep, hidT_get e (no b o e (fun q n z => by rw [d] at z; cases z) fun z => by rw [d] at z; cases z), d, r⟩
  have keepK : K.In (hidT s₁.heap H) := fun b o e => hidT_get (inK b o e) (by
    cases c : H b with
    | none => rfl
    | some u =>
      rcases at_ c with ⟨hb, _⟩ | ⟨_, rfl, n, _⟩
      · obtain ⟨p, hp, e2⟩ := List.mem_map.mp hb
        rw [← e2, noK p hp] at e
        cases e
      · rw [n] at e
        cases e)
  have rel := vals_ints areInts
  have holds : HOk P w H s₁.heap := fun b u c => by
    rcases at_ c with ⟨hb, rfl⟩ | ⟨_, rfl, _, rfl⟩
    · exact isT b hb
    · exact ⟨there, by rw [List.length_map]; exact len, vs, _, rel, there⟩
  have tbs : Tbs Ps H := fun b hb => ⟨#[], if_pos hb, by first | trivial | simp [TriplesOk]⟩
  have script : SqL K H a (ns.map V.int) := by
    cases c : K.lookup a with
    | none => exact Or.inl (Or.inr ⟨ob, (if_neg aT).trans (if_pos ⟨rfl, c⟩)⟩)
    | some o =>
      have e := Option.some.inj ((inK a o c).symm.trans there)
      subst e
      exact Or.inr ⟨_, vs.toArray, _, c, rfl, rfl, rfl, by rw [List.size_toArray, areInts.length]; exact len, by simpa using rel⟩
  have modul : Mod K mg (hidT s₁.heap H) := ⟨keepK, keepNs gl, ⟨mb, keepNs bl, boot⟩, lim.elim fun mc z => ⟨mc, keepNs z.1, z.2⟩⟩
  have tabB : ∀ p ∈ cs, GxR.TabB (hidT s₁.heap H) mg p.1 p.2 := fun p hp => by
    refine ⟨?_, ?_, fun z => ?_⟩
    · obtain ⟨o, us, file, tf, flags, tg, inF, text, tt, e1, r0, r1, r2, rest⟩ := head p hp
      refine ⟨o, us, file, tf, flags, tg, inF, text, tt, hidT_get e1 (no _ _ e1 (fun q n z => ?_) fun z => ?_), r0, r1, r2, rest⟩
      · rw [r1] at z
        cases z
      · rw [r1] at z
        cases z
        simp at r2
    · obtain ⟨bm, o, b1, b2, b3, b4, b5, b6⟩ := bmain
      refine ⟨bm, o, b1, b2, fun q => ?_, fun q => ?_, hidT_get b3 (no _ _ b3 (fun q n z => ?_) fun z => ?_), b4, b5, b6⟩
      · obtain ⟨o2, es, ep, e, d, _⟩ := gl
        rw [q, e] at b3
        cases b3
        rw [d] at b6
        cases b6
      · rw [q, empty p hp] at b3
        cases b3
        cases b6
      · rw [b6] at z
        cases z
      · rw [b6] at z
        cases z
    · obtain ⟨o2, es, ep, e, d, _⟩ := gl
      rw [z, empty p hp] at e
      cases e
      cases d
  have start0 : Env0 P w K mg (hidT s₁.heap H) callerA [] s₁ H := ⟨rfl, modul, fun b o e => of_hidT e, Nat.le_of_eq (hidT_size _ _), trivial, fun b hb => (List.not_mem_nil hb).elim, holds, .of_eq quiet⟩
  refine codeAny_mono ((F _ keepK (keepNs gl) tabB).does callerA [] s₁ H _ [.ref a] [.ref a] _ _ room rfl start0 (binds s₁ (.ref a)) (.cons rfl .nil) (asked H tbs script)) ?_
  intro r s' post
  match r, post with
  | .error e, post => exact False.elim post
  | .ok .next, post => exact post.elim
  | .ok .brk, post => exact post.elim
  | .ok .cont, post => exact post.elim
  | .ok (.ret u), ⟨v, H', os, bare, un, held, rv, e⟩ =>
    cases (show v = V.bl true from e)
    cases (show u = Value.bool true from rv)
    have key : ∀ b o, b ∉ Ps → s₁.heap.get? b = some o → s'.heap.get? b = some o := fun b o nb g => by
      cases c : H b with
      | none => exact un.keep b o g c (fun z => (List.not_mem_nil z).elim) (fun z => (List.not_mem_nil z).elim)
      | some u =>
        rcases at_ c with ⟨hb, _⟩ | ⟨_, rfl, _, rfl⟩
        · exact absurd hb nb
        · rw [Option.some.inj (g.symm.trans there)]
          exact (held b _ (un.frzs b ob _ c)).1
    have grown : ∀ p ∈ cs, ∃ more : Array Value, s'.heap.get? p.2 = some { cls := .none, data := .fields more } := fun p hp =>
      (un.tbls p.2 #[] (if_pos (List.mem_map.mpr ⟨p, hp, rfl⟩))).elim fun more z => ⟨_, held p.2 _ z⟩
    refine ⟨rfl, ⟨fun b o g => ?_, fun b o g => ?_⟩, os, bare⟩
    · by_cases hb : b ∈ Ps
      · obtain ⟨p, hp, e2⟩ := List.mem_map.mp hb
        obtain ⟨more, hm⟩ := grown p hp
        subst e2
        cases Option.some.inj (g.symm.trans (empty p hp))
        exact .inr (.inl ⟨((head p hp).tab (empty p hp)).isCodeTable, rfl, #[], more, rfl, by rw [Array.empty_append]; exact hm⟩)
      · exact .inl (key b o hb g)
    · by_cases hb : b ∈ Ps
      · obtain ⟨p, hp, e2⟩ := List.mem_map.mp hb
        subst e2
        exact (grown p hp).elim fun _ z => ⟨_, z⟩
      · exact ⟨o, key b o hb g⟩
end
/-- the goal that is left of a law: xs, the defs in which a generator expression stands -/
theorem walk_ofT {l : PySem.W.OpenLaw} {n k : Nat} {q : Program} {loose : List Str} {XP : (Str → Option Value) → Heap → Prop} {YP : World → Heap → Prop} {d : DefRec} {K : Params → PySem.W.Frag} {sp : World → List Addr → Sp} {x : Str} (xs : List Str)
    (most : l.most = some n) (n9 : n ≤ sizeLine) (nodf : d.params.defaults = []) (room : Room k callerA) (inK : ∀ (w : World) (h : Heap), YP w h → (K w.params).In h) (recs : ∀ y ∈ xs, ((recsOf q).any fun e => e.name == y) = true)
    (F : ∀ (w : World) (mg : Str → Option Value) (fa : Addr) (h : Heap), (K w.params).In h → h.Ns mainGlobals mg → mg d.name = some (.ref fa) →
      ∃ (fd : FuncData) (cs : List (Addr × Addr)), (∀ p ∈ cs, ∃ y ∈ xs, PySem.W.tabIn (K w.params) y = some p) ∧ (∀ p ∈ cs, (K w.params).lookup p.2 = none) ∧ (∀ (s : Shared) (u : Value), BindsTo s fd ⟨[u], []⟩ [(x, u)]) ∧
        ∀ base : Heap, (K w.params).In base → base.Ns mainGlobals mg → (∀ p ∈ cs, GxR.TabB base mg p.1 p.2) → FnG l.prog w (K w.params) mg base k fa fd [x] (sp w (cs.map (·.2))))
    (asked : ∀ (w : World) (Ps : List Addr) (H : Hp) (a : Addr) (ns : List Int), ns.length ≤ n → Tbs Ps H → SqL (K w.params) H a (ns.map V.int) → sp w Ps [.ref a] H (fun v _ => v = .bl true) fun _ _ _ => False) :
    PySem.W.WalkO q loose XP YP l.row.toRowW d [] (fun f vs => PySem.call f vs) :=
  Att.attach_call most nodf fun w s₀ s₁ mg mb fa o pm cd doc a vs ns G Y ho hd hcd hmg hobj hints hlen hg => by
    obtain ⟨fd, cs, ht, hn, b, f⟩ := F w mg fa _ (inK w _ Y) G.T.g hmg
    have tab : ∀ p ∈ cs, PySem.W.CodeHd s₁.heap p.1 p.2 ∧ s₁.heap.get? p.2 = some eob := fun p hp => by
      obtain ⟨y, hy, e⟩ := ht p hp
      obtain ⟨r, hr⟩ : ∃ r, (recsOf q).find? (fun e => e.name == y) = some r := Option.isSome_iff_exists.mp (by
        rw [List.find?_isSome]
        exact List.any_eq_true.mp (recs y hy))
      exact PySem.W.tab_of G.T (inK w _ Y) hr e
    exact call_lawT (inK w _ Y) G.T.g G.T.b G.T.builtins G.T.nolimit hg (fun p hp => (tab p hp).2) hn (fun p hp => (tab p hp).1) G.T.bmain hobj hints (Nat.le_trans hlen n9) room f b fun H tbs sc => asked w _ H a ns hlen tbs sc
/-- a comprehension in a comprehension -/
theorem blkOk_nest {N : List Str} {outer scope sc : Scope} {own : List (Str × Nat)} {cl : List (Str × Addr)} {C : Addr} {env : Env} (hs : env.scope = sc) (h : blkC N (relS outer sc) scope own = true) : BlkOk N (compEnvC outer cl C env).scope scope own := by
  subst hs
  exact blkOk_by h
/-- tuple(x) of a list or a tuple -/
def rTupI (K : PySem.W.Frag) : List V → Hp → VK → Prop := fun xs H Q => ∃ p ys, xs = [.ref p] ∧ ((SqL K H p ys ∧ ∀ l H', Same H H' → H l = none → H' l = some (.tup ys) → Q (.ref l) H') ∨ (SqT K H p ys ∧ Q (.ref p) H))
theorem tupI {X : Cx} {K : PySem.W.Frag} (h : X.K = K) : CallR X (.type "tuple") (rTupI K) := fun pins s σ H xs us Q I r ⟨p, ys, e, q⟩ =>
  call_tuple_of pins s σ H xs us Q I r ⟨p, ys, e, h ▸ q.imp (fun z => ⟨z.1, fun l hl => z.2 l _ (same_new hl) hl upd_same⟩) id⟩
theorem tabIn_of {K : PySem.W.Frag} {x : Str} {f c P : Addr} {oc e : Value} {od dd : Option Addr} {fd : FuncData} {osl sl : Array (Option Value)} {vs : Array Value} (a : PySem.W.nsIn K mainGlobals x = some (some (.ref f))) (l : K.lookup f = some ⟨oc, od, .func fd, osl⟩)
    (hc : fd.code = .ref c) (q : K.lookup c = some ⟨e, dd, .fields vs, sl⟩) (p : vs[11]? = some (.ref P)) : PySem.W.tabIn K x = some (c, P) := by
  unfold PySem.W.tabIn
  rw [a]
  dsimp only
  rw [l]
  dsimp only
  rw [hc]
  dsimp only
  rw [q]
  dsimp only
  rw [p]
end KR
/-! ### fractions as numbers of the field -/
namespace KR
open PySem PySem.Spec PyProof.Rows L2
theorem Same.tup {K : PySem.W.Frag} {H H' : Hp} {a : Addr} {xs : List V} (e : Same H H') (h : SqT K H a xs) : SqT K H' a xs :=
  h.elim (fun h => .inl (h.elim (fun h => .inl (e _ _ h)) fun ⟨o, h⟩ => .inr ⟨o, e _ _ h⟩)) fun h => .inr h
theorem sqT_ty {K : PySem.W.Frag} {H : Hp} {a : Addr} {xs : List V} (h : SqT K H a xs) : TyX K H (.ref a) (.type "tuple") := by
  rcases h with (h | ⟨o, h⟩) | ⟨o, its, n, h1, h2, _⟩
  · exact .base (.tup h)
  · exact .fTuple h
  · exact .kTuple h1 h2
theorem sqT_frL {K : PySem.W.Frag} {H H' : Hp} {a p : Addr} {xs ys : List V} (h : SqT K H a xs) (hp : H p = some (.lst ys)) (f : Fr p H H') : SqT K H' a xs := by
  rcases h with (h | ⟨o, h⟩) | h
  · exact .inl (.inl (f _ _ (ne_of h hp (by intro z; cases z)) h))
  · exact .inl (.inr ⟨o, f _ _ (ne_of h hp (by intro z; cases z)) h⟩)
  · exact .inr h
theorem sqT_fr {K : PySem.W.Frag} {H H' : Hp} {a p : Addr} {n : Nat} {xs : List V} (h : SqT K H a xs) (B : BoxAt H p n) (f : Fr p H H') : SqT K H' a xs := by
  obtain ⟨i, j, k, hp, _⟩ := B
  exact sqT_frL h hp f
theorem fr_upd {p : Addr} {H : Hp} {o : HO} : Fr p H (upd H p o) := Fr.put Fr.refl
theorem BoxAt.upd {H : Hp} {p D : Addr} {n : Nat} {o : HO} (h : BoxAt H p n) (ne : D ≠ p) : BoxAt (L2.upd H D o) p n := by
  obtain ⟨a, b, c, h1, h2⟩ := h
  exact ⟨a, b, c, by rw [upd_ne ne.symm]; exact h1, h2⟩
def rq (t b : Int) : Rat := (t : Rat) / (b : Rat)
theorem rat_nd (q : Rat) : (q.num : Rat) / ((q.den : Int) : Rat) = q := by rw [← Rat.divInt_eq_div, Rat.num_divInt_den]
theorem den_ne (q : Rat) : ((q.den : Int) : Rat) ≠ 0 := by
  intro h
  have k := q.den_pos
  have h2 : ((q.den : Int) : Rat) = ((0 : Int) : Rat) := h
  have e := Rat.intCast_inj.mp h2
  omega
theorem den_ne' (q : Rat) : (q.den : Int) ≠ 0 := by
  have k := q.den_pos
  omega
theorem int_ne {b : Int} (h : b ≠ 0) : (b : Rat) ≠ 0 := fun z => h (Rat.intCast_inj.mp (z.trans (by rfl : (0 : Rat) = ((0 : Int) : Rat))))
theorem rat_low (q : Rat) : IsLow q.num q.den := ⟨by have k := q.den_pos; omega, by rw [Int.natAbs_natCast]; exact q.reduced⟩
theorem rq_cross {t b : Int} (hb : b ≠ 0) : t * ((rq t b).den : Int) = (rq t b).num * b := by
  have e := rat_nd (rq t b)
  have h1 := den_ne (rq t b)
  have h2 := int_ne hb
  refine Rat.intCast_inj.mp ?_
  rw [Rat.intCast_mul, Rat.intCast_mul]
  generalize ((rq t b).den : Int) = d at *
  generalize (rq t b).num = n at *
  unfold rq at e
  grind
theorem rq_low {t b : Int} (hb : b ≠ 0) : low t b = ((rq t b).num, ((rq t b).den : Int)) := low_eq hb (rat_low _) (rq_cross hb)
theorem cast_pos {b : Int} (h : 0 < b) : (0 : Rat) < (b : Rat) := (Rat.intCast_lt_intCast (a := 0)).mpr h
theorem cast_nn {b : Int} (h : 0 ≤ b) : (0 : Rat) ≤ (b : Rat) := (Rat.intCast_le_intCast (a := 0)).mpr h
theorem le_div {a b c : Rat} (h : 0 < c) (k : a * c ≤ b) : a ≤ b / c := Rat.not_lt.mp fun z => absurd ((Rat.div_lt_iff h).mp z) (Rat.not_lt.mpr k)
theorem div_le {a b c : Rat} (h : 0 < c) (k : b ≤ a * c) : b / c ≤ a := Rat.not_lt.mp fun z => absurd ((Rat.lt_div_iff h).mp z) (Rat.not_lt.mpr k)
theorem rq_nn {t b : Int} (ht : 0 ≤ t) (hb : 0 < b) : 0 ≤ rq t b := by
  have h1 := cast_nn ht
  have h2 := cast_pos hb
  unfold rq
  generalize (t : Rat) = x at *
  generalize (b : Rat) = y at *
  exact le_div h2 (by grind)
theorem rq_pos {t b : Int} (ht : 0 < t) (hb : 0 < b) : 0 < rq t b := by
  have h1 := cast_pos ht
  have h2 := cast_pos hb
  unfold rq
  generalize (t : Rat) = x at *
  generalize (b : Rat) = y at *
  exact (Rat.lt_div_iff h2).mpr (by grind)
theorem rq_lt_one {t b : Int} (ht : t < b) (hb : 0 < b) : rq t b < 1 := by
  have h1 := Rat.intCast_lt_intCast.mpr ht
  have h2 := cast_pos hb
  unfold rq
  generalize (t : Rat) = x at *
  generalize (b : Rat) = y at *
  exact (Rat.div_lt_iff h2).mpr (by grind)
theorem rq_le_one {t b : Int} (ht : t ≤ b) (hb : 0 < b) : rq t b ≤ 1 := by
  have h1 := Rat.intCast_le_intCast.mpr ht
  have h2 := cast_pos hb
  unfold rq
  generalize (t : Rat) = x at *
  generalize (b : Rat) = y at *
  exact div_le h2 (by grind)
theorem rq_add (p q : Rat) : rq (p.num * q.den + q.num * p.den) (p.den * q.den) = p + q := by
  have e1 := rat_nd p
  have e2 := rat_nd q
  have h1 := den_ne p
  have h2 := den_ne q
  unfold rq
  rw [Rat.intCast_add, Rat.intCast_mul, Rat.intCast_mul, Rat.intCast_mul]
  generalize ((p.den : Int) : Rat) = d at *
  generalize (p.num : Rat) = n at *
  generalize ((q.den : Int) : Rat) = d2 at *
  generalize (q.num : Rat) = n2 at *
  grind
theorem rq_sub (p q : Rat) : rq (p.num * q.den - q.num * p.den) (p.den * q.den) = p - q := by
  have e1 := rat_nd p
  have e2 := rat_nd q
  have h1 := den_ne p
  have h2 := den_ne q
  unfold rq
  rw [Rat.intCast_sub, Rat.intCast_mul, Rat.intCast_mul, Rat.intCast_mul]
  generalize ((p.den : Int) : Rat) = d at *
  generalize (p.num : Rat) = n at *
  generalize ((q.den : Int) : Rat) = d2 at *
  generalize (q.num : Rat) = n2 at *
  grind
theorem rq_mul (p q : Rat) : rq (p.num * q.num) (p.den * q.den) = p * q := by
  have e1 := rat_nd p
  have e2 := rat_nd q
  have h1 := den_ne p
  have h2 := den_ne q
  unfold rq
  rw [Rat.intCast_mul, Rat.intCast_mul]
  generalize ((p.den : Int) : Rat) = d at *
  generalize (p.num : Rat) = n at *
  generalize ((q.den : Int) : Rat) = d2 at *
  generalize (q.num : Rat) = n2 at *
  grind
theorem rq_div (p q : Rat) : rq (p.num * q.den) (p.den * q.num) = p / q := by
  have e1 := rat_nd p
  have e2 := rat_nd q
  have h1 := den_ne p
  have h2 := den_ne q
  unfold rq
  rw [Rat.intCast_mul, Rat.intCast_mul]
  generalize ((p.den : Int) : Rat) = d at *
  generalize (p.num : Rat) = n at *
  generalize ((q.den : Int) : Rat) = d2 at *
  generalize (q.num : Rat) = n2 at *
  grind
theorem rq_self (q : Rat) : rq q.num q.den = q := rat_nd q
theorem num_ne {q : Rat} (h : q ≠ 0) : q.num ≠ 0 := fun z => h (by
  have e := rat_nd q
  rw [z] at e
  rw [← e]
  grind)
theorem num_zero {q : Rat} : q.num = 0 ↔ q = 0 := ⟨fun z => Classical.byContradiction fun y => num_ne y z, fun z => by rw [z] <;> rfl⟩
theorem num_pos {q : Rat} : 0 < q.num ↔ 0 < q := by
  have k := Rat.lt_iff 0 q
  simp at k
  exact k.symm
theorem num_nn {q : Rat} : 0 ≤ q.num ↔ 0 ≤ q := Rat.num_nonneg
theorem lt_cross (p q : Rat) : (p.num * q.den < q.num * p.den) ↔ p < q := (Rat.lt_iff p q).symm
/-- top and bottom fit so many bits -/
def Sz (n : Nat) (q : Rat) : Prop := q.num.natAbs < 2 ^ n ∧ (q.den : Int).natAbs < 2 ^ n
theorem Sz.up {n m : Nat} {q : Rat} (h : Sz n q) (le : n ≤ m) : Sz m q := ⟨lt_up h.1 le, lt_up h.2 le⟩
theorem sz_rq {t b : Int} {n : Nat} (hb : b ≠ 0) (h1 : t.natAbs < 2 ^ n) (h2 : b.natAbs < 2 ^ n) : Sz n (rq t b) := by
  have k := low_lt h1 h2
  rw [rq_low hb] at k
  exact k
theorem Sz.int {z : Int} {n : Nat} (h : z.natAbs < 2 ^ n) (h0 : 0 < n) : Sz n (z : Rat) := ⟨h, Nat.lt_of_lt_of_le (by decide : (1 : Nat) < 2 ^ 1) (Nat.pow_le_pow_right (by decide) h0)⟩
theorem Sz.neg {n : Nat} {q : Rat} (h : Sz n q) : Sz n (-q) := ⟨by
  show (-q.num).natAbs < 2 ^ n
  rw [Int.natAbs_neg]
  exact h.1, h.2⟩
/-- a fraction that is read -/
def FrQ (K : PySem.W.Frag) (H : Hp) (x : Addr) (q : Rat) : Prop := SqT K H x [.int q.num, .int (q.den : Int)]
theorem FrQ.same {K : PySem.W.Frag} {H H' : Hp} {x : Addr} {q : Rat} (h : FrQ K H x q) (s : Same H H') : FrQ K H' x q := Same.tup s h
theorem FrQ.fr {K : PySem.W.Frag} {H H' : Hp} {x p : Addr} {n : Nat} {q : Rat} (h : FrQ K H x q) (B : BoxAt H p n) (f : Fr p H H') : FrQ K H' x q := sqT_fr h B f
theorem FrQ.of {K : PySem.W.Frag} {H : Hp} {x : Addr} {q : Rat} (h : H x = some (.tup [.int q.num, .int (q.den : Int)])) : FrQ K H x q := SqT.of h
theorem FrQ.int {K : PySem.W.Frag} {H : Hp} {x : Addr} {z : Int} (h : H x = some (.tup [.int z, .int 1])) : FrQ K H x (z : Rat) := SqT.of h
/-- a juice that is read -/
def JuQ (K : PySem.W.Frag) (H : Hp) (x : Addr) (s w : Rat) : Prop := ∃ a b, SqT K H x [.ref a, .ref b] ∧ FrQ K H a s ∧ FrQ K H b w
theorem JuQ.same {K : PySem.W.Frag} {H H' : Hp} {x : Addr} {s w : Rat} (h : JuQ K H x s w) (e : Same H H') : JuQ K H' x s w := by
  obtain ⟨a, b, h1, h2, h3⟩ := h
  exact ⟨a, b, Same.tup e h1, h2.same e, h3.same e⟩
theorem JuQ.fr {K : PySem.W.Frag} {H H' : Hp} {x p : Addr} {n : Nat} {s w : Rat} (h : JuQ K H x s w) (B : BoxAt H p n) (f : Fr p H H') : JuQ K H' x s w := by
  obtain ⟨a, b, h1, h2, h3⟩ := h
  exact ⟨a, b, sqT_fr h1 B f, h2.fr B f, h3.fr B f⟩
theorem JuQ.new {K : PySem.W.Frag} {H : Hp} {x a b : Addr} {s w : Rat} (h : H x = some (.tup [.ref a, .ref b])) (ha : FrQ K H a s) (hb : FrQ K H b w) : JuQ K H x s w := ⟨a, b, SqT.of h, ha, hb⟩
/-- a new pair of two numbers' lowest terms -/
def sp_lowQ (K : PySem.W.Frag) : Sp := fun vs H Q _ => ∃ (t b : Int) (n : Nat), vs = [.int t, .int b] ∧ b ≠ 0 ∧ t.natAbs < 2 ^ n ∧ b.natAbs < 2 ^ n ∧ n ≤ 2000 ∧ ∀ p H', Same H H' → H p = none → FrQ K H' p (rq t b) → Sz n (rq t b) → Q (.ref p) H'
theorem lowQ {K : PySem.W.Frag} {vs : List V} {H : Hp} {Q : VK} {E : XK} (h : sp_lowQ K vs H Q E) : sp_low vs H Q E := by
  obtain ⟨t, b, n, e, hb, h1, h2, hn, q⟩ := h
  refine ⟨t, b, e, hb, lt_up h1 hn, lt_up h2 hn, fun p H' s hp h' => q p H' s hp ?_ (sz_rq hb h1 h2)⟩
  rw [rq_low hb] at h'
  exact .of h'
/-- two fractions in, one out -/
def sp_q2 (K : PySem.W.Frag) (f : Rat → Rat → Rat) (ok : Rat → Rat → Prop) : Sp := fun vs H Q _ => ∃ (x y : Addr) (p q : Rat) (m n : Nat), vs = [.ref x, .ref y] ∧ FrQ K H x p ∧ FrQ K H y q ∧ Sz m p ∧ Sz n q ∧ m + n ≤ 1900 ∧ ok p q ∧
  ∀ z H', Same H H' → H z = none → FrQ K H' z (f p q) → Sz (m + n + 1) (f p q) → Q (.ref z) H'
def sp_less (K : PySem.W.Frag) : Sp := fun vs H Q _ => ∃ (x y : Addr) (p q : Rat), vs = [.ref x, .ref y] ∧ FrQ K H x p ∧ FrQ K H y q ∧ Sz 1900 p ∧ Sz 1900 q ∧ Q (.bl (decide (p < q))) H
theorem mulZ {i j : Int} {a b : Nat} (ha : i.natAbs < 2 ^ a) (hb : j.natAbs < 2 ^ b) (h : a + b ≤ 100000) : IntMulOk i j :=
  mulW (lt_up ha (by omega : a ≤ a + 1)) (lt_up hb (by omega : b ≤ b + 1)) (by omega) (by omega) (by omega)
/-! data of the law's own making, tuples of the written part among them -/
inductive Dk (K : PySem.W.Frag) (H : Hp) : Nat → V → PyData → Prop
  | non (n : Nat) : Dk K H (n + 1) .non .none
  | bl (n : Nat) (b : Bool) : Dk K H (n + 1) (.bl b) (.bool b)
  | int (n : Nat) (i : Int) : Dk K H (n + 1) (.int i) (.int i)
  | str (n : Nat) (x : Str) (ok : PyData.canLay0 (.str x) = true) : Dk K H (n + 1) (.str x) (.str x)
  | lst {n : Nat} {a : Addr} {xs : List V} {ds : List PyData} : H a = some (.lst xs) → xs.length = ds.length → xs.length ≤ 100000 → (∀ (i : Nat) (x : V) (d : PyData), xs[i]? = some x → ds[i]? = some d → Dk K H n x d) → Dk K H (n + 1) (.ref a) (.list ds)
  | tup {n : Nat} {a : Addr} {xs : List V} {ds : List PyData} : SqT K H a xs → xs.length = ds.length → xs.length ≤ 100000 → (∀ (i : Nat) (x : V) (d : PyData), xs[i]? = some x → ds[i]? = some d → Dk K H n x d) → Dk K H (n + 1) (.ref a) (.tuple ds)
theorem Dk.same {K : PySem.W.Frag} {H H' : Hp} (s : Same H H') : ∀ {n : Nat} {v : V} {d : PyData}, Dk K H n v d → Dk K H' n v d := by
  intro n v d h
  induction h with
  | non n => exact .non n
  | bl n b => exact .bl n b
  | int n i => exact .int n i
  | str n x ok => exact .str n x ok
  | lst h1 h2 h3 _ ih => exact .lst (s _ _ h1) h2 h3 ih
  | tup h1 h2 h3 _ ih => exact .tup (Same.tup s h1) h2 h3 ih
theorem Dk.up {K : PySem.W.Frag} {H : Hp} {n m : Nat} {v : V} {d : PyData} (h : Dk K H n v d) : n ≤ m → Dk K H m v d := by
  intro le
  induction h generalizing m with
  | non n => obtain ⟨k, rfl⟩ : ∃ k, m = k + 1 := ⟨m - 1, by omega⟩; exact .non k
  | bl n b => obtain ⟨k, rfl⟩ : ∃ k, m = k + 1 := ⟨m - 1, by omega⟩; exact .bl k b
  | int n i => obtain ⟨k, rfl⟩ : ∃ k, m = k + 1 := ⟨m - 1, by omega⟩; exact .int k i
  | str n x ok => obtain ⟨k, rfl⟩ : ∃ k, m = k + 1 := ⟨m - 1, by omega⟩; exact .str k x ok
  | lst h1 h2 h3 _ ih => obtain ⟨k, rfl⟩ : ∃ k, m = k + 1 := ⟨m - 1, by omega⟩; exact .lst h1 h2 h3 fun i x d a b => ih i x d a b (by omega)
  | tup h1 h2 h3 _ ih => obtain ⟨k, rfl⟩ : ∃ k, m = k + 1 := ⟨m - 1, by omega⟩; exact .tup h1 h2 h3 fun i x d a b => ih i x d a b (by omega)
/-- rows of data beside their values -/
def DkAll (K : PySem.W.Frag) (H : Hp) (n : Nat) (xs : List V) (ds : List PyData) : Prop := xs.length = ds.length ∧ ∀ (i : Nat) (x : V) (d : PyData), xs[i]? = some x → ds[i]? = some d → Dk K H n x d
theorem DkAll.nil {K : PySem.W.Frag} {H : Hp} {n : Nat} : DkAll K H n [] [] := ⟨rfl, fun i x d h => by simp at h⟩
theorem DkAll.cons {K : PySem.W.Frag} {H : Hp} {n : Nat} {x : V} {d : PyData} {xs : List V} {ds : List PyData} (h : Dk K H n x d) (t : DkAll K H n xs ds) : DkAll K H n (x :: xs) (d :: ds) :=
  ⟨by rw [List.length_cons, List.length_cons, t.1], fun i u v hu hv => match i, hu, hv with
    | 0, hu, hv => by cases hu; cases hv; exact h
    | i + 1, hu, hv => t.2 i u v hu hv⟩
theorem DkAll.tup {K : PySem.W.Frag} {H : Hp} {n : Nat} {xs : List V} {ds : List PyData} {a : Addr} (t : DkAll K H n xs ds) (h : SqT K H a xs) (z : Nat.ble xs.length 100000 = true := by rfl) : Dk K H (n + 1) (.ref a) (.tuple ds) := .tup h t.1 (Nat.le_of_ble_eq_true z) t.2
theorem DkAll.lst {K : PySem.W.Frag} {H : Hp} {n : Nat} {xs : List V} {ds : List PyData} {a : Addr} (t : DkAll K H n xs ds) (h : H a = some (.lst xs)) (z : Nat.ble xs.length 100000 = true := by rfl) : Dk K H (n + 1) (.ref a) (.list ds) := .lst h t.1 (Nat.le_of_ble_eq_true z) t.2
/-- the data of a fraction, of a juice -/
def dq (q : Rat) : PyData := .tuple [.int q.num, .int (q.den : Int)]
def dj (s w : Rat) : PyData := .tuple [dq s, dq w]
theorem FrQ.dk {K : PySem.W.Frag} {H : Hp} {x : Addr} {q : Rat} (h : FrQ K H x q) (n : Nat := 0) : Dk K H (n + 2) (.ref x) (dq q) := DkAll.tup (.cons (.int _ _) (.cons (.int _ _) .nil)) h
theorem JuQ.dk {K : PySem.W.Frag} {H : Hp} {x : Addr} {s w : Rat} (h : JuQ K H x s w) (n : Nat := 0) : Dk K H (n + 3) (.ref x) (dj s w) := by
  obtain ⟨a, b, h1, h2, h3⟩ := h
  exact DkAll.tup (.cons (h2.dk n) (.cons (h3.dk n) .nil)) h1
/-- forty figures -/
theorem b133 {n : Nat} (h : n < 10 ^ 40) : n < 2 ^ 133 := Nat.lt_trans h (by decide)
/-- a fraction or None -/
def OQ (K : PySem.W.Frag) (H : Hp) (v : V) : Option Rat → Prop
  | none => v = .non
  | some q => ∃ x, v = .ref x ∧ FrQ K H x q
theorem OQ.same {K : PySem.W.Frag} {H H' : Hp} {v : V} {o : Option Rat} (h : OQ K H v o) (e : Same H H') : OQ K H' v o := by
  cases o with
  | none => exact h
  | some q =>
    obtain ⟨x, e1, h1⟩ := h
    exact ⟨x, e1, h1.same e⟩
def oq : Option Rat → PyData
  | none => .none
  | some q => dq q
theorem OQ.dk {K : PySem.W.Frag} {H : Hp} {v : V} {o : Option Rat} (h : OQ K H v o) (n : Nat := 0) : Dk K H (n + 2) v (oq o) := by
  cases o with
  | none => rw [show v = .non from h]; exact .non _
  | some q =>
    obtain ⟨x, e1, h1⟩ := h
    rw [e1]
    exact h1.dk n
/-- the strength of a juice -/
def stren (s w : Rat) : Option Rat := if s + w = 0 then none else some (s / (s + w))
theorem stren_part {s w t : Rat} (h : t ≠ 0) : stren (s * t) (w * t) = stren s w := by
  unfold stren
  by_cases c : s + w = 0
  · rw [if_pos c, if_pos (by grind)]
  · rw [if_neg c, if_neg (by grind)]
    congr 1
    grind
theorem stren_more {s w t : Rat} (h : 0 ≤ t) : stren (s + s * t) (w + w * t) = stren s w := by
  have e1 : s + s * t = s * (1 + t) := by grind
  have e2 : w + w * t = w * (1 + t) := by grind
  rw [e1, e2]
  exact stren_part (by grind)
theorem strength_between {s w x y : Rat} (hs : 0 ≤ s) (hw : 0 ≤ w) (hx : 0 ≤ x) (hy : 0 ≤ y) (h1 : s + w ≠ 0) (h2 : x + y ≠ 0) (le : s / (s + w) ≤ x / (x + y)) :
    s / (s + w) ≤ (s + x) / (s + x + (w + y)) ∧ (s + x) / (s + x + (w + y)) ≤ x / (x + y) := by
  have p1 : 0 < s + w := by grind
  have p2 : 0 < x + y := by grind
  have p3 : 0 < s + x + (w + y) := by grind
  generalize ea : s / (s + w) = a at *
  generalize eb : x / (x + y) = b at *
  have sa : s = a * (s + w) := by grind
  have xb : x = b * (x + y) := by grind
  have d : 0 ≤ b - a := by grind
  constructor
  · refine le_div p3 ?_
    have k := Rat.mul_nonneg d (Rat.le_of_lt p2)
    grind
  · refine div_le p3 ?_
    have k := Rat.mul_nonneg d (Rat.le_of_lt p1)
    grind
theorem is_zero {q : Rat} : decide (q.num = 0 ∧ (q.den : Int) = 1) = decide (q = 0) := by
  rw [decide_eq_decide]
  constructor
  · rintro ⟨h, _⟩
    exact num_zero.mp h
  · rintro rfl
    exact ⟨rfl, rfl⟩
/-- boiling -/
def wat (s u : Rat) : Rat := s / u - s
def boil (s w : Rat) (f : Int) (u h : Rat) : Rat := if wat s u < w then (if w - f * h < wat s u then wat s u else w - f * h) else w
theorem rq_wat (s u : Rat) (hu : u ≠ 0) : rq (s.num * ((u.den : Int) - u.num)) (s.den * u.num) = wat s u := by
  have e1 := rat_nd s
  have e2 := rat_nd u
  have h1 := den_ne s
  have h2 := den_ne u
  have h3 := int_ne (num_ne hu)
  unfold rq wat
  rw [Rat.intCast_mul, Rat.intCast_mul, Rat.intCast_sub]
  generalize ((s.den : Int) : Rat) = d at *
  generalize (s.num : Rat) = n at *
  generalize ((u.den : Int) : Rat) = d2 at *
  generalize (u.num : Rat) = n2 at *
  rw [← e1, ← e2]
  grind
theorem Sz.add {m n : Nat} {p q : Rat} (h : Sz m p) (k : Sz n q) : Sz (m + n + 1) (p + q) := by
  rw [← rq_add]
  exact sz_rq (Int.mul_ne_zero (den_ne' p) (den_ne' q)) (lt_up (add_lt (wide_lt h.1 k.2) (lt_up (wide_lt k.1 h.2) (by omega : n + m ≤ m + n))) (by omega)) (lt_up (wide_lt h.2 k.2) (by omega))
theorem Sz.sub {m n : Nat} {p q : Rat} (h : Sz m p) (k : Sz n q) : Sz (m + n + 1) (p - q) := by
  rw [← rq_sub]
  exact sz_rq (Int.mul_ne_zero (den_ne' p) (den_ne' q)) (lt_up (sub_lt (wide_lt h.1 k.2) (lt_up (wide_lt k.1 h.2) (by omega : n + m ≤ m + n))) (by omega)) (lt_up (wide_lt h.2 k.2) (by omega))
theorem Sz.mul {m n : Nat} {p q : Rat} (h : Sz m p) (k : Sz n q) : Sz (m + n) (p * q) := by
  rw [← rq_mul]
  exact sz_rq (Int.mul_ne_zero (den_ne' p) (den_ne' q)) (wide_lt h.1 k.1) (wide_lt h.2 k.2)
theorem Sz.wat {m n : Nat} {s u : Rat} (h : Sz m s) (k : Sz n u) (hu : u ≠ 0) : Sz (m + n + 1) (wat s u) := by
  rw [← rq_wat s u hu]
  exact sz_rq (Int.mul_ne_zero (den_ne' s) (num_ne hu)) (lt_up (wide_lt h.1 (sub_lt k.2 k.1)) (by omega)) (lt_up (wide_lt h.2 k.1) (by omega))
theorem Sz.boil {a b c n N : Nat} {s w u h : Rat} {f : Int} (zs : Sz a s) (zu : Sz n u) (hu : u ≠ 0) (zw : Sz b w) (zh : Sz c h) (hf : f.natAbs < 2 ^ 14) (h1 : a + n + 1 ≤ N) (h2 : b + (14 + c) + 1 ≤ N) : Sz N (KR.boil s w f u h) := by
  unfold KR.boil
  split
  · split
    · exact (Sz.wat zs zu hu).up h1
    · exact (Sz.sub zw (Sz.mul (Sz.int hf (by decide)) zh)).up h2
  · exact zw.up (by omega)
theorem boil_zero {s w u : Rat} {f : Int} : boil s w f u 0 = w := by
  unfold boil
  rw [Rat.mul_zero]
  split <;> grind
theorem boil_boil {s w u h k : Rat} {f : Int} (hf : 0 ≤ f) (hh : 0 ≤ h) (hk : 0 ≤ k) : boil s (boil s w f u h) f u k = boil s w f u (h + k) := by
  have f0 := cast_nn hf
  have a0 := Rat.mul_nonneg f0 hh
  have b0 := Rat.mul_nonneg f0 hk
  unfold boil
  rw [Rat.mul_add]
  generalize (f : Rat) * h = a at *
  generalize (f : Rat) * k = b at *
  generalize wat s u = L
  grind
theorem boil_fire {s w u h : Rat} {f g : Int} (hf : f ≤ g) (hh : 0 ≤ h) : boil s w g u h ≤ boil s w f u h := by
  have k := Rat.mul_nonneg (cast_nn (show 0 ≤ g - f by omega)) hh
  rw [Rat.intCast_sub] at k
  unfold boil
  generalize wat s u = L
  have e : ((g : Rat) - (f : Rat)) * h = (g : Rat) * h - (f : Rat) * h := by grind
  rw [e] at k
  generalize (f : Rat) * h = a at *
  generalize (g : Rat) * h = b at *
  grind
theorem boil_two {s w u h : Rat} {f : Int} : boil (s + s) (w + w) (2 * f) u h = boil s w f u h + boil s w f u h := by
  unfold boil
  have e : wat (s + s) u = wat s u + wat s u := by
    unfold wat
    grind
  rw [e, Rat.intCast_mul]
  have e2 : ((2 : Int) : Rat) * (f : Rat) * h = (f : Rat) * h + (f : Rat) * h := by
    have e3 : ((2 : Int) : Rat) = 2 := rfl
    rw [e3]
    grind
  rw [e2]
  generalize (f : Rat) * h = a at *
  generalize wat s u = L at *
  grind
theorem Sz.div {m n : Nat} {p q : Rat} (h : Sz m p) (k : Sz n q) (hq : q ≠ 0) : Sz (m + n) (p / q) := by
  rw [← rq_div]
  exact sz_rq (Int.mul_ne_zero (den_ne' p) (num_ne hq)) (wide_lt h.1 k.2) (wide_lt h.2 k.1)
theorem rq_divi (r : Rat) (f : Int) : rq r.num (r.den * f) = r / (f : Rat) := by
  have e := rq_div r (f : Rat)
  rw [← e]
  show rq r.num (r.den * f) = rq (r.num * 1) (r.den * f)
  rw [Int.mul_one]
theorem FrQ.dp {K : PySem.W.Frag} {H : Hp} {x : Addr} {q : Rat} (h : FrQ K H x q) : Dp K H (.ref x) (dq q) := .tup h (.cons (.int _) (.cons (.int _) .nil))
theorem JuQ.dp {K : PySem.W.Frag} {H : Hp} {x : Addr} {s w : Rat} (h : JuQ K H x s w) : Dp K H (.ref x) (dj s w) := by
  obtain ⟨a, b, h1, h2, h3⟩ := h
  exact .tup h1 (.cons h2.dp (.cons h3.dp .nil))
theorem eqv_dq (a b : Rat) : PyData.eqv (dq a) (dq b) = decide (a = b) := by
  refine eqv_pair.trans ?_
  rw [decide_eq_decide]
  constructor
  · rintro ⟨h1, h2⟩
    exact Rat.ext h1 (by omega)
  · rintro rfl
    exact ⟨rfl, rfl⟩
theorem OQ.dp {K : PySem.W.Frag} {H : Hp} {v : V} {o : Option Rat} (h : OQ K H v o) : Dp K H v (oq o) := by
  cases o with
  | none => rw [show v = .non from h]; exact .non
  | some q =>
    obtain ⟨x, e1, h1⟩ := h
    rw [e1]
    exact h1.dp
theorem oq_fit (o : Option Rat) : PyData.canLay0 (oq o) = true ∧ PyData.depth (oq o) ≤ 60 := by
  cases o with
  | none => exact ⟨rfl, by decide⟩
  | some q => exact ⟨rfl, by show 1 ≤ 60; decide⟩
/-- when a juice is ready -/
def ready (s w : Rat) (f : Int) (u : Rat) : Option Rat := if s = 0 then none else if wat s u < w then (if f = 0 then none else some ((w - wat s u) / (f : Rat))) else some 0
theorem wat_nn {s u : Rat} (hs : 0 ≤ s) (u0 : 0 < u) (u1 : u < 1) : 0 ≤ wat s u := by
  have k := Rat.mul_nonneg hs (show 0 ≤ 1 - u by grind)
  have h : s ≤ s / u := le_div u0 (by grind)
  unfold wat
  grind
theorem on_way {s w u : Rat} {f : Int} (hs : 0 < s) (u0 : 0 < u) (u1 : u < 1) (hf : 0 < f) (lt : wat s u < w) {t : Rat} (et : t = (w - wat s u) / (f : Rat)) :
    boil s w f u t = wat s u ∧ stren s (wat s u) = some u ∧ 0 < t ∧ ∀ h : Rat, 0 < h → (boil s w f u (t + h) = wat s u ∧ (h ≤ 1 → ∃ q, stren s (boil s w f u (t * h)) = some q ∧ (q = u ↔ h = 1) ∧ ready s (boil s w f u (t * h)) f u = some (t - t * h))) := by
  have f0 := cast_pos hf
  have fne : (f : Rat) ≠ 0 := by grind
  have ft : (f : Rat) * t = w - wat s u := by rw [et]; grind
  have wn := wat_nn (Rat.le_of_lt hs) u0 u1
  have tp : 0 < t := by
    rw [et]
    exact (Rat.lt_div_iff f0).mpr (by grind)
  refine ⟨?_, ?_, tp, fun h hh => ⟨?_, fun h1 => ?_⟩⟩
  · unfold boil
    rw [ft]
    grind
  · have e : s + wat s u = s / u := by
      unfold wat
      grind
    have ne : s / u ≠ 0 := by grind
    unfold stren
    rw [e, if_neg ne]
    congr 1
    grind
  · have k := Rat.mul_pos f0 hh
    unfold boil
    rw [Rat.mul_add, ft]
    grind
  · have d : 0 < w - wat s u := by grind
    have k := Rat.mul_nonneg (Rat.le_of_lt d) (show 0 ≤ 1 - h by grind)
    have e : (f : Rat) * (t * h) = (w - wat s u) * h := by rw [← ft]; grind
    have eb : boil s w f u (t * h) = w - (w - wat s u) * h := by
      unfold boil
      rw [e]
      grind
    have xge : wat s u ≤ w - (w - wat s u) * h := by grind
    have sx : s + (w - (w - wat s u) * h) ≠ 0 := by grind
    rw [eb]
    refine ⟨s / (s + (w - (w - wat s u) * h)), if_neg sx, ⟨fun q => ?_, fun q => ?_⟩, ?_⟩
    · have q2 : s = u * (s + (w - (w - wat s u) * h)) := by grind
      have q3 : wat s u = w - (w - wat s u) * h := by
        unfold wat at *
        grind
      have q4 : (w - wat s u) * (1 - h) = 0 := by grind
      have q5 : 1 - h = 0 := by
        rcases Rat.mul_eq_zero.mp q4 with z | z
        · grind
        · exact z
      grind
    · rw [q]
      have e2 : s + (w - (w - wat s u) * 1) = s / u := by
        unfold wat
        grind
      rw [e2]
      grind
    · unfold ready
      rw [if_neg (by grind)]
      by_cases c : wat s u < w - (w - wat s u) * h
      · rw [if_pos c, if_neg (by omega)]
        congr 1
        rw [et]
        grind
      · rw [if_neg c]
        have q4 : (w - wat s u) * (1 - h) = 0 := by grind
        have q5 : 1 - h = 0 := by
          rcases Rat.mul_eq_zero.mp q4 with z | z
          · grind
          · exact z
        have q6 : h = 1 := by grind
        rw [q6]
        congr 1
        grind
/-- a thing is not among those of a tuple -/
def rNoTup (K : PySem.W.Frag) : R2 := fun x y H Q => ∃ d ds, Dp K H x d ∧ Dp K H y (.tuple ds) ∧ PyData.canLay0 d = true ∧ PyData.canLayAll0 ds = true ∧ PyData.depth d ≤ 60 ∧ Q (.bl (!ds.any fun z => PyData.eqv z d)) H
theorem notTup {X : Cx} {K : PySem.W.Frag} (hK : X.K = K) (room : X.A.units + 64 < cLine) : OpR X (compareOp .NotIn) (rNoTup K) := by
  subst hK
  intro pn s0 σ H x y v1 v2 Q I a1 a2 h
  obtain ⟨d, ds, h1, h2, h3, h4, h5, q⟩ := h
  obtain ⟨as1, r1⟩ := Dp.reads I d x v1 h1 a1
  obtain ⟨as2, r2⟩ := Dp.reads I (.tuple ds) y v2 h2 a2
  exact SeqAt.notIn_tuple_reads r2 r1 h4 h3 (by omega) ⟨.bl _, H, I, rfl, q⟩
/-- a juice in, a juice and a share in, two juices in -/
def sp_j2 (K : PySem.W.Frag) : Sp := fun vs H Q _ => ∃ (x y : Addr) (s w s' w' : Rat) (m n : Nat), vs = [.ref x, .ref y] ∧ JuQ K H x s w ∧ JuQ K H y s' w' ∧ Sz m s ∧ Sz m w ∧ Sz n s' ∧ Sz n w' ∧ m + n ≤ 1900 ∧
  ∀ z H', Same H H' → JuQ K H' z (s + s') (w + w') → Sz (m + n + 1) (s + s') → Sz (m + n + 1) (w + w') → Q (.ref z) H'
def sp_jt (K : PySem.W.Frag) (f : Rat → Rat) : Sp := fun vs H Q _ => ∃ (x y : Addr) (s w t : Rat) (m n : Nat), vs = [.ref x, .ref y] ∧ JuQ K H x s w ∧ FrQ K H y t ∧ Sz m s ∧ Sz m w ∧ Sz n t ∧ m + n ≤ 900 ∧ n ≤ 400 ∧
  ∀ z H', Same H H' → JuQ K H' z (s * f t) (w * f t) → Sz (m + n + 10) (s * f t) → Sz (m + n + 10) (w * f t) → Q (.ref z) H'
def sp_vol (K : PySem.W.Frag) : Sp := fun vs H Q _ => ∃ (x : Addr) (s w : Rat) (m : Nat), vs = [.ref x] ∧ JuQ K H x s w ∧ Sz m s ∧ Sz m w ∧ m ≤ 900 ∧ ∀ z H', Same H H' → FrQ K H' z (s + w) → Sz (m + m + 1) (s + w) → Q (.ref z) H'
def sp_str (K : PySem.W.Frag) : Sp := fun vs H Q _ => ∃ (x : Addr) (s w : Rat) (m : Nat), vs = [.ref x] ∧ JuQ K H x s w ∧ Sz m s ∧ Sz m w ∧ m ≤ 600 ∧ ∀ v H', Same H H' → OQ K H' v (stren s w) → (∀ q, stren s w = some q → Sz (3 * m + 2) q) → Q v H'
end KR
/-! ### fractions of many bits: a common bottom, a bound -/
namespace KR
open PySem PySem.Spec PyProof.Rows L2
def sp_lowV : Sp := fun vs H Q _ => ∃ t b : Int, vs = [.int t, .int b] ∧ b ≠ 0 ∧ t.natAbs < 2 ^ 8900 ∧ b.natAbs < 2 ^ 8900 ∧ ∀ p H', Same H H' → H p = none → H' p = some (.tup [.int (low t b).1, .int (low t b).2]) → Q (.ref p) H'
def sp_lowW (K : PySem.W.Frag) : Sp := fun vs H Q _ => ∃ t b : Int, vs = [.int t, .int b] ∧ b ≠ 0 ∧ t.natAbs < 2 ^ 8900 ∧ b.natAbs < 2 ^ 8900 ∧ ∀ p H', Same H H' → H p = none → FrQ K H' p (rq t b) → Q (.ref p) H'
theorem lowW {K : PySem.W.Frag} {vs : List V} {H : Hp} {Q : VK} {E : XK} (h : sp_lowW K vs H Q E) : sp_lowV vs H Q E := by
  obtain ⟨t, b, e, hb, h1, h2, q⟩ := h
  refine ⟨t, b, e, hb, h1, h2, fun p H' s hp h' => q p H' s hp ?_⟩
  rw [rq_low hb] at h'
  exact .of h'
abbrev Big (q : Rat) : Prop := Sz 4400 q
def sp_w2 (K : PySem.W.Frag) (f : Rat → Rat → Rat) (ok : Rat → Rat → Prop) : Sp := fun vs H Q _ => ∃ (x y : Addr) (p q : Rat), vs = [.ref x, .ref y] ∧ FrQ K H x p ∧ FrQ K H y q ∧ Big p ∧ Big q ∧ ok p q ∧ ∀ z H', Same H H' → H z = none → FrQ K H' z (f p q) → Q (.ref z) H'
/-- so often as M tells it is a whole number -/
def Dv (M : Nat) (q : Rat) : Prop := ∃ z : Int, q * ((M : Int) : Rat) = (z : Rat)
theorem Dv.zero {M : Nat} : Dv M 0 := ⟨0, by rw [Rat.zero_mul]; rfl⟩
theorem Dv.int {M : Nat} (i : Int) : Dv M (i : Rat) := ⟨i * M, by rw [Rat.intCast_mul]⟩
theorem Dv.add {M : Nat} {p q : Rat} (h : Dv M p) (k : Dv M q) : Dv M (p + q) := by
  obtain ⟨a, ea⟩ := h
  obtain ⟨b, eb⟩ := k
  exact ⟨a + b, by rw [Rat.add_mul, ea, eb, Rat.intCast_add]⟩
theorem Dv.neg {M : Nat} {p : Rat} (h : Dv M p) : Dv M (-p) := by
  obtain ⟨a, ea⟩ := h
  exact ⟨-a, by rw [Rat.neg_mul, ea, Rat.intCast_neg]⟩
theorem Dv.sub {M : Nat} {p q : Rat} (h : Dv M p) (k : Dv M q) : Dv M (p - q) := by
  rw [Rat.sub_eq_add_neg]
  exact h.add k.neg
theorem Dv.mul {M N : Nat} {p q : Rat} (h : Dv M p) (k : Dv N q) : Dv (M * N) (p * q) := by
  obtain ⟨a, ea⟩ := h
  obtain ⟨b, eb⟩ := k
  refine ⟨a * b, ?_⟩
  rw [Rat.intCast_mul, ← ea, ← eb, Int.natCast_mul, Rat.intCast_mul]
  generalize ((M : Int) : Rat) = m
  generalize ((N : Int) : Rat) = n
  grind
theorem Dv.up {M N : Nat} {q : Rat} (h : Dv M q) (d : M ∣ N) : Dv N q := by
  obtain ⟨a, ea⟩ := h
  obtain ⟨k, rfl⟩ := d
  refine ⟨a * k, ?_⟩
  rw [Rat.intCast_mul, ← ea, Int.natCast_mul, Rat.intCast_mul]
  generalize ((M : Int) : Rat) = m
  generalize ((k : Int) : Rat) = n
  grind
theorem Dv.rq {t b : Int} (hb : 0 < b) : Dv b.natAbs (KR.rq t b) := by
  refine ⟨t, ?_⟩
  have e : ((b.natAbs : Nat) : Int) = b := by omega
  rw [e]
  have h := int_ne (show b ≠ 0 by omega)
  unfold KR.rq
  generalize (t : Rat) = x
  generalize (b : Rat) = y at *
  grind
theorem Dv.den (q : Rat) : Dv q.den q := by
  have k := Dv.rq (t := q.num) (b := (q.den : Int)) (by have := q.den_pos; omega)
  rw [rq_self, Int.natAbs_natCast] at k
  exact k
theorem rat_le_abs {z : Int} {M B : Nat} {q : Rat} (e : q * ((M : Int) : Rat) = (z : Rat)) (lo : -((B : Int) : Rat) ≤ q) (hi : q ≤ ((B : Int) : Rat)) : z.natAbs ≤ B * M := by
  have m0 := cast_nn (show (0 : Int) ≤ (M : Int) by omega)
  have k1 := Rat.mul_le_mul_of_nonneg_right hi m0
  have k2 := Rat.mul_le_mul_of_nonneg_right lo m0
  rw [e, ← Rat.intCast_mul] at k1
  rw [e, ← Rat.intCast_neg, ← Rat.intCast_mul] at k2
  have h1 := Rat.intCast_le_intCast.mp k1
  have h2 := Rat.intCast_le_intCast.mp k2
  have h3 : -(B : Int) * (M : Int) = -((B : Int) * (M : Int)) := Int.neg_mul _ _
  rw [h3] at h2
  have h4 : ((B * M : Nat) : Int) = (B : Int) * (M : Int) := Int.natCast_mul _ _
  omega
/-- what has a common bottom and a bound is not long -/
theorem Dv.sz {M B n : Nat} {q : Rat} (h : Dv M q) (hM : 0 < M) (lo : -((B : Int) : Rat) ≤ q) (hi : q ≤ ((B : Int) : Rat)) (b1 : 1 ≤ B) (fit : B * M < 2 ^ n) : Sz n q := by
  obtain ⟨z, e⟩ := h
  have k := rat_le_abs e lo hi
  have m1 : M ≤ B * M := Nat.le_mul_of_pos_left M b1
  have eq : q = KR.rq z (M : Int) := by
    have h := int_ne (show (M : Int) ≠ 0 by omega)
    unfold KR.rq
    rw [← e]
    generalize ((M : Int) : Rat) = y at *
    grind
  rw [eq]
  exact sz_rq (by omega) (Nat.lt_of_le_of_lt k fit) (by rw [Int.natAbs_natCast]; exact Nat.lt_of_le_of_lt m1 fit)
theorem fit_lt {M B m b n : Nat} (hM : M < 2 ^ m) (hB : B < 2 ^ b) (h : b + m ≤ n) : B * M < 2 ^ n :=
  Nat.lt_of_lt_of_le (by rw [Nat.pow_add]; exact Nat.mul_lt_mul'' hB hM) (Nat.pow_le_pow_right (by decide) h)
theorem Dv.szN {M B n : Nat} {q : Rat} (h : Dv M q) (hM : 0 < M) (lo : 0 ≤ q) (hi : q ≤ ((B : Int) : Rat)) (b1 : 1 ≤ B) (fit : B * M < 2 ^ n) : Sz n q := by
  refine h.sz hM ?_ hi b1 fit
  have := cast_nn (show (0 : Int) ≤ (B : Int) by omega)
  grind
/-- rows of fractions -/
abbrev Fz := Addr × Rat
def rz (l : List Fz) : List V := l.map fun z => V.ref z.1
def FL (K : PySem.W.Frag) (H : Hp) (l : List Fz) : Prop := ∀ z ∈ l, FrQ K H z.1 z.2
theorem FL.same {K : PySem.W.Frag} {H H' : Hp} {l : List Fz} (h : FL K H l) (e : Same H H') : FL K H' l := fun z hz => (h z hz).same e
theorem FL.fr {K : PySem.W.Frag} {H H' : Hp} {p : Addr} {n : Nat} {l : List Fz} (h : FL K H l) (B : BoxAt H p n) (f : Fr p H H') : FL K H' l := fun z hz => (h z hz).fr B f
theorem FL.nil {K : PySem.W.Frag} {H : Hp} : FL K H [] := fun z hz => absurd hz List.not_mem_nil
theorem FL.snoc {K : PySem.W.Frag} {H : Hp} {l : List Fz} {z : Fz} (h : FL K H l) (k : FrQ K H z.1 z.2) : FL K H (l ++ [z]) := fun y hy => by
  rcases List.mem_append.mp hy with m | m
  · exact h y m
  · rw [List.mem_singleton.mp m]
    exact k
theorem FL.put {K : PySem.W.Frag} {H : Hp} {l : List Fz} {p : Addr} {xs ys : List V} (h : FL K H l) (hp : H p = some (.lst xs)) : FL K (upd H p (.lst ys)) l := fun z hz => sqT_frL (h z hz) hp fr_upd
theorem rz_len (l : List Fz) : (rz l).length = l.length := List.length_map _
theorem rz_get {l : List Fz} {i : Nat} {x : V} (h : (rz l)[i]? = some x) : ∃ z, l[i]? = some z ∧ x = .ref z.1 := by
  unfold rz at h
  rw [List.getElem?_map] at h
  cases e : l[i]? with
  | none =>
    rw [e] at h
    cases h
  | some z =>
    rw [e] at h
    exact ⟨z, rfl, (Option.some.inj h).symm⟩
theorem rz_snoc (l : List Fz) (z : Fz) : rz (l ++ [z]) = rz l ++ [.ref z.1] := by
  unfold rz
  rw [List.map_append] <;> rfl
/-- all together -/
def zsum : List Rat → Rat
  | [] => 0
  | q :: r => q + zsum r
theorem zsum_app (a b : List Rat) : zsum (a ++ b) = zsum a + zsum b := by
  induction a with
  | nil =>
    show zsum b = 0 + zsum b
    rw [Rat.zero_add]
  | cons q r ih =>
    show q + zsum (r ++ b) = q + zsum r + zsum b
    rw [ih, Rat.add_assoc]
theorem zsum_one (q : Rat) : zsum [q] = q := Rat.add_zero q
theorem zsum_take {l : List Rat} {i : Nat} {q : Rat} (h : l[i]? = some q) : zsum (l.take (i + 1)) = zsum (l.take i) + q := by
  rw [take_one h, zsum_app, zsum_one]
theorem Dv.all {M : Nat} {l : List Rat} (h : ∀ q ∈ l, Dv M q) : Dv M (zsum l) := by
  induction l with
  | nil => exact .zero
  | cons q r ih => exact (h q List.mem_cons_self).add (ih fun y hy => h y (List.mem_cons_of_mem _ hy))
theorem zsum_nn {l : List Rat} (h : ∀ q ∈ l, 0 ≤ q) : 0 ≤ zsum l := by
  induction l with
  | nil => exact Rat.le_refl
  | cons q r ih =>
    have h1 := h q List.mem_cons_self
    have h2 := ih fun y hy => h y (List.mem_cons_of_mem _ hy)
    show 0 ≤ q + zsum r
    grind
theorem zsum_le {B : Rat} {l : List Rat} (h : ∀ q ∈ l, q ≤ B) : zsum l ≤ ((l.length : Int) : Rat) * B := by
  induction l with
  | nil =>
    show (0 : Rat) ≤ ((0 : Int) : Rat) * B
    have : ((0 : Int) : Rat) = 0 := rfl
    rw [this, Rat.zero_mul]
    exact Rat.le_refl
  | cons q r ih =>
    have h1 := h q List.mem_cons_self
    have h2 := ih fun y hy => h y (List.mem_cons_of_mem _ hy)
    show q + zsum r ≤ (((r.length + 1 : Nat) : Int) : Rat) * B
    have e : (((r.length + 1 : Nat) : Int) : Rat) = ((r.length : Int) : Rat) + 1 := by
      rw [Int.natCast_add, Rat.intCast_add] <;> rfl
    rw [e]
    generalize ((r.length : Int) : Rat) = n at *
    grind
theorem zsum_take_le {l : List Rat} (h : ∀ q ∈ l, 0 ≤ q) (i : Nat) : zsum (l.take i) ≤ zsum l := by
  have e : zsum l = zsum (l.take i) + zsum (l.drop i) := by rw [← zsum_app, List.take_append_drop]
  have k := zsum_nn (l := l.drop i) fun q hq => h q (List.mem_of_mem_drop hq)
  grind
/-- rows of fractions that may be added one after another -/
def AddOk (l : List Rat) : Prop := ∀ i, i ≤ l.length → Big (zsum (l.take i))
/-- a part: from 0 to 1, its bottom at most 12 -/
structure Part (q : Rat) : Prop where
  lo : 0 ≤ q
  hi : q ≤ 1
  bt : q.den ≤ 12
theorem Part.dv {q : Rat} (h : Part q) : Dv 27720 q := by
  refine (Dv.den q).up ?_
  have h1 := h.bt
  have h0 := q.den_pos
  generalize q.den = d at *
  have all : ∀ d, d ≤ 12 → 0 < d → d ∣ 27720 := by decide
  exact all d h1 h0
theorem Part.zero : Part 0 := ⟨Rat.le_refl, by decide, by decide⟩
theorem den_le {t b : Int} (hb : 0 < b) : ((rq t b).den : Int) ≤ b := by
  have e := rq_low (t := t) (b := b) (by omega)
  have k : (low t b).2 = ((rq t b).den : Int) := by rw [e]
  rw [← k]
  show (b.natAbs : Int) / (Nat.gcd t.natAbs b.natAbs : Int) ≤ b
  have g : (0 : Int) < (Nat.gcd t.natAbs b.natAbs : Int) := by
    have := Nat.gcd_pos_of_pos_right t.natAbs (show 0 < b.natAbs by omega)
    omega
  have h := Int.ediv_le_self (a := (b.natAbs : Int)) (Nat.gcd t.natAbs b.natAbs : Int) (by omega)
  omega
theorem Part.rq {t b : Int} (h0 : 0 ≤ t) (h1 : t ≤ b) (hb : 0 < b) (b12 : b ≤ 12) : Part (KR.rq t b) :=
  ⟨rq_nn h0 hb, rq_le_one h1 hb, by have := den_le (t := t) hb; omega⟩
end KR
/-! ### len(set(texts)) -/
namespace KR
open PySem PySem.Spec PyProof.Rows L2
/-- each text once, as it first comes -/
def dd : List Str → List Str → List Str
  | acc, [] => acc
  | acc, x :: xs => dd (if x ∈ acc then acc else acc ++ [x]) xs
def dist (xs : List Str) : List Str := dd [] xs
theorem dd_app (ys : List Str) : ∀ (xs acc : List Str), dd acc (xs ++ ys) = dd (dd acc xs) ys
  | [], _ => rfl
  | x :: xs, acc => dd_app ys xs _
theorem dist_snoc (xs : List Str) (x : Str) : dist (xs ++ [x]) = if x ∈ dist xs then dist xs else dist xs ++ [x] := dd_app [x] xs []
theorem mem_dd {y : Str} : ∀ (xs acc : List Str), y ∈ dd acc xs ↔ y ∈ acc ∨ y ∈ xs
  | [], acc => by simp [dd]
  | x :: xs, acc => by
    unfold dd
    rw [mem_dd xs, List.mem_cons]
    by_cases h : x ∈ acc
    · rw [if_pos h]
      constructor
      · rintro (k | k)
        · exact .inl k
        · exact .inr (.inr k)
      · rintro (k | rfl | k)
        · exact .inl k
        · exact .inl h
        · exact .inr k
    · rw [if_neg h, List.mem_append, List.mem_singleton, or_assoc]
theorem mem_dist {y : Str} {xs : List Str} : y ∈ dist xs ↔ y ∈ xs := by
  rw [show dist xs = dd [] xs from rfl, mem_dd] <;> simp
theorem dd_le : ∀ (xs acc : List Str), (dd acc xs).length ≤ acc.length + xs.length
  | [], acc => Nat.le_refl _
  | x :: xs, acc => by
    unfold dd
    refine Nat.le_trans (dd_le xs _) ?_
    split <;> simp <;> omega
theorem dist_le (xs : List Str) : (dist xs).length ≤ xs.length := by
  have h := dd_le xs []
  rw [List.length_nil, Nat.zero_add] at h
  exact h
theorem dd_nodup : ∀ (xs acc : List Str), acc.Nodup → (dd acc xs).Nodup
  | [], _, h => h
  | x :: xs, acc, h => by
    unfold dd
    refine dd_nodup xs _ ?_
    split
    · exact h
    · rename_i c
      rw [List.nodup_append]
      exact ⟨h, by simp, fun a ha b hb => by rw [List.mem_singleton.mp hb]; intro e; exact c (e ▸ ha)⟩
theorem dist_nodup (xs : List Str) : (dist xs).Nodup := dd_nodup xs [] List.nodup_nil
/-- as many as there are texts: no two are alike -/
theorem dd_full : ∀ (xs acc : List Str), (acc ++ xs).Nodup → dd acc xs = acc ++ xs
  | [], acc, _ => by rw [List.append_nil] <;> rfl
  | x :: xs, acc, h => by
    have c : x ∉ acc := fun m => by
      rw [List.nodup_append] at h
      exact h.2.2 x m x List.mem_cons_self rfl
    unfold dd
    rw [if_neg c, dd_full xs (acc ++ [x]) (by rw [List.append_assoc]; exact h), List.append_assoc] <;> rfl
theorem dist_full {xs : List Str} (h : xs.Nodup) : dist xs = xs := dd_full xs [] h
theorem dd_less : ∀ (xs acc : List Str), acc.Nodup → ¬ (acc ++ xs).Nodup → (dd acc xs).length < acc.length + xs.length
  | [], acc, h, k => absurd (by rw [List.append_nil]; exact h) k
  | x :: xs, acc, h, k => by
    unfold dd
    by_cases c : x ∈ acc
    · rw [if_pos c]
      have := dd_le xs acc
      rw [List.length_cons]
      omega
    · rw [if_neg c]
      have e := dd_less xs (acc ++ [x]) (by rw [List.nodup_append]; exact ⟨h, by simp, fun a ha b hb => by rw [List.mem_singleton.mp hb]; intro e; exact c (e ▸ ha)⟩) (by rw [List.append_assoc]; exact k)
      rw [List.length_append, List.length_singleton] at e
      rw [List.length_cons]
      omega
theorem dist_len {xs : List Str} : (dist xs).length = xs.length ↔ xs.Nodup := by
  constructor
  · intro e
    apply Classical.byContradiction
    intro k
    have := dd_less xs [] List.nodup_nil k
    rw [show dd [] xs = dist xs from rfl] at this
    simp at this
    omega
  · intro h
    rw [dist_full h]
section
variable {prog : Program} {w : World} {A : Around} {E : Value → Shared → Prop} {s : Shared}
/-- the set at S holds the first i texts -/
abbrev Holds1 (prog : Program) (w : World) (S : Addr) (xs : List Str) (i : Nat) (h : Heap) : Prop := h.SetOf (PySem.strKind prog w) S (fun k => (dist (xs.take i)).any (· == k)) (dist (xs.take i)).length
theorem holds1_step {S : Addr} {xs : List Str} {i : Nat} {x : Str} {h : Heap} (e : xs[i]? = some x)
    (hs : h.SetOf (PySem.strKind prog w) S (fun k => (dist (xs.take i)).any (· == k) || decide (k = x)) (if (dist (xs.take i)).any (· == x) = true then (dist (xs.take i)).length else (dist (xs.take i)).length + 1)) : Holds1 prog w S xs (i + 1) h := by
  have t : xs.take (i + 1) = xs.take i ++ [x] := by rw [List.take_add_one, e] <;> rfl
  have mem : (dist (xs.take i)).any (· == x) = true ↔ x ∈ dist (xs.take i) := by rw [List.any_eq_true] <;> simp
  refine SetOf_congr hs (fun k => ?_) ?_
  · rw [t, dist_snoc]
    by_cases c : x ∈ dist (xs.take i)
    · rw [if_pos c]
      by_cases kx : k = x
      · subst kx
        rw [mem.mpr c] <;> rfl
      · rw [decide_eq_false kx, Bool.or_false]
    · rw [if_neg c, List.any_append]
      by_cases kx : k = x
      · subst kx
        simp
      · have kx2 : ¬ x = k := fun z => kx z.symm
        simp [kx, kx2]
  · rw [t, dist_snoc]
    by_cases c : x ∈ dist (xs.take i)
    · rw [if_pos c, if_pos (mem.mpr c)]
    · rw [if_neg c, if_neg fun z => c (mem.mp z), List.length_append] <;> rfl
theorem update_texts {R : Result → Shared → Prop} {it S : Addr} {fp wr : List Addr} {G : Array GenState → Array GenState → Prop} {P : Nat → Value → Prop} {St : Nat → Shared → Prop} {xs : List Str} (W : WalksS prog w A.in1 it fp wr G xs.length P St) (hS : S ∉ fp) (hn : xs.length < 4000)
    (val : ∀ i v, P i v → ∃ x t, xs[i]? = some x ∧ v = .str x t) :
    ∀ (k i : Nat) (s : Shared), i + k = xs.length → St i s → Holds1 prog w S xs i s.heap → (∀ s', Moved (S :: wr) G s s' → Holds1 prog w S xs xs.length s'.heap → R (.ok (.ret .none)) s') →
      codeAny (model prog w) A (.builtin "set.update.loop" ⟨[.ref S, .ref it], []⟩) R s := by
  have nw : S ∉ wr := fun z => hS (W.sub _ z)
  have up : ∀ b ∈ wr, b ∈ S :: wr := fun b z => List.mem_cons_of_mem _ z
  have moved : ∀ {j : Nat} {s s' : Shared}, Moved wr G s s' → Holds1 prog w S xs j s.heap → Holds1 prog w S xs j s'.heap := fun {j s s'} m ⟨o, es, ep, t, ho, r⟩ => ⟨o, es, ep, t, m.heap S _ nw ho, r⟩
  intro k
  induction k with
  | zero =>
    intro i s e st hs fin
    obtain rfl : i = xs.length := e
    apply codeAny_builtin (PyProof.Rows.F.entry_set_update_loop)
    rw [Around.under_plainId (PyProof.Rows.F.plain_set_update_loop) _]
    show wpAny (model prog w) A.in1 (pyNext (.ref it) >>= _) _ _ s
    refine wpAny_bind (W.done s _ _ st fun s' m => ?_)
    show wpAny (model prog w) A.in1 (ret Value.none) _ _ s'
    exact wpAny_pure (fin s' (m.mono up) (moved m hs))
  | succ k ih =>
    intro i s e st hs fin
    apply codeAny_builtin (PyProof.Rows.F.entry_set_update_loop)
    rw [Around.under_plainId (PyProof.Rows.F.plain_set_update_loop) _]
    show wpAny (model prog w) A.in1 (pyNext (.ref it) >>= _) _ _ s
    refine wpAny_bind (W.item i s _ _ (by omega) st fun v s' hP st' m => ?_)
    obtain ⟨x, t, hx, rfl⟩ := val i v hP
    have hs' := moved m hs
    show wpAny (model prog w) A.in1 (holding [Value.str x t] (setAdd S (.str x t)) >>= _) _ _ s'
    refine wpAny_bind (wpAny_holding ?_)
    unfold setAdd
    refine wpAny_holding (wpAny_bind ((PySem.strKind prog w).pyHash (k := x) (strKind_is _ _ _ _) ?_))
    have room : (dist (xs.take i)).length + 1 < scanBound := by
      have z1 := dist_le (xs.take i)
      have z2 : (xs.take i).length ≤ xs.length := by rw [List.length_take]; omega
      unfold scanBound
      omega
    refine wpAny_setAddHashed_of (knd := PySem.strKind prog w) (s := { s' with toks := s'.toks + 1 }) (strKind_is _ _ _ _) rfl hs' room fun h' sb new => ?_
    refine wpAny_pure ⟨plainId_quiet (PyProof.Rows.F.plain_set_update_loop) _, ih (i + 1) _ (by omega) (W.frame _ s' _ _ st' (Nat.le_succ _) fun b hb o g => ?_) (holds1_step hx new) fun s'' m2 h2 => ?_⟩
    · rw [sb.2 b fun z : b = S => hS (z ▸ hb)]
      exact g
    · refine fin s'' (Moved.trans W.gtrans ((m.mono up).then_heap (Nat.le_succ _) fun b o hb g => ?_) m2) h2
      rw [sb.2 b fun z : b = S => hb (by rw [z]; exact List.mem_cons_self)]
      exact g
theorem holds1_zero {led : Bool} {S : Addr} {xs : List Str} {h : Heap} (e : h.get? S = some { cls := .type "set", dict := none, data := .set #[] 0 (.fresh 0 0 led) }) : Holds1 prog w S xs 0 h :=
  PyProof.Rows.SetOf_congr ((PyProof.Rows.setObjOf_fresh (knd := PySem.strKind prog w) led).setOf e (by unfold scanBound; omega)) (fun _ => rfl) rfl
set_option maxHeartbeats 8000000 in
/-- set(a list of texts) -/
theorem set_texts {l : Addr} {items : Array Value} {xs : List Str} {Q : Value → Shared → Prop} (calm : A.handled = none) (hl : s.heap.IsList l items) (len : xs.length = items.size) (few : xs.length < 4000) (val : ∀ (i : Nat) (v : Value), items[i]? = some v → ∃ (x : Str) (t : Tok), xs[i]? = some x ∧ v = Value.str x t)
    (want : ∀ (h' : Heap) (tk : Nat), Holds1 prog w s.heap.objs.size xs xs.length h' → (∀ b o, b < s.heap.objs.size → s.heap.get? b = some o → h'.get? b = some o) → Q (.ref s.heap.objs.size) { s with heap := h', toks := tk }) :
    wpAny (model prog w) A (call (.type "set") [.ref l]) Q E s := by
  obtain ⟨c, tl, hmro⟩ := (PySem.F.called_set).mro
  have made := (PySem.F.called_set).made
  have sub := (PySem.F.called_set).sub
  apply wpAny_call
  apply codeAny_of_tree
  show wpAny (model prog w) _ (callAny (.type "set") _) _ _ _
  refine wpAny_pure ⟨Code.quiet_builtin _ (by decide +kernel), codeAny_builtin (PySem.F.entry_type_call) ?_⟩
  rw [Around.under_plain (weight_type_call_type "set" [.ref l] []) rfl]
  have notT := (PySem.F.called_set).notType
  have canC := (PySem.F.called_set).canCreate
  have tcall := PySem.F.typeCall_set_1 (.ref l)
  repeat (any_goals (first | assumption | wp_step))
  generalize hob : (fun led : Bool => ({ cls := .type "set", dict := none, data := .set #[] 0 (.fresh 0 0 led) } : Obj)) = ob
  have obE : ∀ led, ob led = { cls := .type "set", dict := none, data := .set #[] 0 (.fresh 0 0 led) } := fun led => by rw [← hob]
  refine codeAny_mono (code_set_new_1 (.ref l) (E := E) (Q₁ := fun o s1 => ∃ led : Bool, o = .ref s.heap.objs.size ∧ s1 = { s with heap := s.heap.push (ob led) }) fun led => ⟨led, rfl, by rw [obE]⟩) fun r s1 hr => ?_
  match r, hr with
  | .error _, hr => exact hr
  | .ok .next, hr => exact hr.elim
  | .ok .brk, hr => exact hr.elim
  | .ok .cont, hr => exact hr.elim
  | .ok (.ret o), hr =>
    obtain ⟨led, rfl, rfl⟩ := hr
    have atS : (s.heap.push (ob led)).get? s.heap.objs.size = some (ob led) := Heap.get?_push_size _ (by rw [obE] <;> rfl)
    have tyS : Shared.TypeIs { s with heap := s.heap.push (ob led) } (.ref s.heap.objs.size) "set" := ⟨_, atS, by rw [obE]⟩
    have init1 := (PySem.F.called_set).init.lookup
    have init2 := (PySem.F.called_set).init.bind (.ref s.heap.objs.size)
    repeat (any_goals (first | assumption | wp_step))
    refine codeAny_mono (codeAny_call_builtin (R := wants (fun r s2 => r = .none ∧ ∃ h' tk, s2 = { s with heap := h', toks := tk } ∧ Holds1 prog w s.heap.objs.size xs xs.length h' ∧ (∀ b o, b < s.heap.objs.size → s.heap.get? b = some o → h'.get? b = some o)) E)
      (PySem.F.called_set).init.plain (PySem.F.entry_set_init) (check_set_init_1 tyS ?_)) fun r2 s2 hr2 => ?_
    · obtain ⟨⟨ocls, odict, odata, oslots⟩, lo, lc, nl, ld⟩ := hl
      simp only at lc ld
      subst lc ld
      have lo' := Heap.get?_push_of_some (ob led) lo
      have nset := PySem.F.sub_list_set
      have nfro := PySem.F.sub_list_frozenset
      have ndict : (Value.type "list" == Value.type "dict") = false := by decide
      have isl : (s.heap.push (ob led)).IsList l items := ⟨_, lo', rfl, nl, rfl⟩
      have lltS : l < s.heap.objs.size := Heap.lt_size lo
      have obd : (ob led).data = .set #[] 0 (.fresh 0 0 led) := by rw [obE]
      unfold Builtin.«set.__init__» noKeywords Builtin.Frozenset.updateFrom
      generalize held : pyIter = walkOf
      wp_walk
      rw [obd]
      wp_walk
      subst held
      refine wpAny_pyIter_list (items := items) ?_ ?_
      · exact isl
      refine wpAny_bind (m := runValue _) (wpAny_runValue ?_)
      have calm3 : A.in1.in1.in1.handled = none := by simp [calm]
      have szp : (s.heap.push (ob led)).objs.size = s.heap.objs.size + 1 := Heap.size_push ..
      have apart : l ≠ (s.heap.push (ob led)).objs.size := by
        rw [szp]
        exact Nat.ne_of_lt (Nat.lt_succ_of_lt lltS)
      have notin : s.heap.objs.size ∉ [(s.heap.push (ob led)).objs.size, l] := fun z => by
        rcases List.mem_cons.mp z with z | z
        · rw [szp] at z
          exact absurd z (Nat.ne_of_lt (Nat.lt_succ_self _))
        · exact absurd (List.mem_singleton.mp z) (Nat.ne_of_gt lltS)
      have W := (Walks.list (prog := prog) (w := w) calm3 (s.heap.push (ob led)).objs.size l apart items).toS
      rw [← len] at W
      refine update_texts W notin few val xs.length 0 _ (by omega) ⟨⟨_, Heap.get?_push_size _ rfl, rfl, rfl⟩, isl.push _⟩ (holds1_zero (led := led) ?_) fun s' m hs => ?_
      · rw [← obE]
        exact Heap.get?_push_of_some _ atS
      · obtain ⟨h', g', d', tk', os'⟩ := s'
        obtain rfl : g' = s.gens := m.gens
        obtain rfl : d' = s.drawn := m.drawn
        obtain rfl : os' = s.os := m.os
        refine wpAny_pure ?_
        show wpAny (model prog w) _ (ret Value.none) _ _ _
        refine wpAny_pure ⟨rfl, h', tk', rfl, hs, fun b o hb e => m.heap b o (fun z => ?_) (Heap.get?_push_of_some _ (Heap.get?_push_of_some _ e))⟩
        rcases List.mem_cons.mp z with z | z
        · exact absurd z (Nat.ne_of_lt hb)
        · rw [List.mem_singleton.mp z, szp] at hb
          exact absurd hb (Nat.not_lt.mpr (Nat.le_succ _))
    · match r2, hr2 with
      | .error _, hr2 => exact hr2
      | .ok .next, hr2 => exact hr2.elim
      | .ok .brk, hr2 => exact hr2.elim
      | .ok .cont, hr2 => exact hr2.elim
      | .ok (.ret r), hr2 =>
        obtain ⟨rfl, h', tk, rfl, hs, hk⟩ := hr2
        repeat (any_goals (first | assumption | wp_step))
        exact want _ _ hs hk
end
/-- len(set(xs)), xs a list of texts -/
def tLenSetS (K : PySem.W.Frag) (ta : TE) : TE := fun σ H Q => ta σ H fun x H1 => ∃ (l : Addr) (xs : List Str), x = .ref l ∧ SqL K H1 l (xs.map V.str) ∧ xs.length < 4000 ∧ Q (.int ((dist xs).length : Nat)) H1
theorem pe_lenSetS {X : Cx} {K : PySem.W.Frag} (hK : X.K = K) {a : Expr} {ta : TE} {p p2 q pos : Pos} (hg : Gl X "len") (hm : X.mg "len" = none) (hg2 : Gl X "set") (hm2 : X.mg "set" = none) (ha : PE X a ta) (hc : X.calm = true := by rfl)
    (na : starEach [a] X.env = (false, eval a X.env) :: starEach [] X.env := by rfl) : PE X (.Call (.Name "len" p) [.Call (.Name "set" p2) [a] [] q] [] pos) (tLenSetS K ta) := by
  subst hK
  constructor
  intro pins s σ H Q I want
  refine Call_ (ld_blt I hg hm boot_len (PyProof.Rows.callWith_builtin1 (PyProof.Rows.args_cons ?_ rfl) rfl rfl))
  refine Call_ (ld_blt I hg2 hm2 boot_set (PyProof.Rows.callWith_type1 (PyProof.Rows.args_cons (thn (ha.run pins s σ H _ I want) fun v s1 ⟨x, H1, I1, r1, l, xs, ex, hq, few, q1⟩ => PyProof.Rows.args_nil ?_) na) na rfl))
  subst ex
  cases r1
  obtain ⟨its, r, pl, hz⟩ := I1.list hq
  have len : xs.length = its.toArray.size := by rw [List.size_toArray, ← r.length, List.length_map]
  refine set_texts (I1.ok.hd hc) pl.isList len few (fun i v hv => ?_) fun h' tk hs hk => ?_
  · have hv2 : its[i]? = some v := by simpa using hv
    have lt : i < xs.length := by rw [len, List.size_toArray]; exact (List.getElem?_eq_some_iff.mp hv2).1
    have hx : xs[i]? = some xs[i] := List.getElem?_eq_getElem lt
    obtain ⟨u, hu, ru⟩ := r.get (show (xs.map V.str)[i]? = some (.str xs[i]) by rw [List.getElem?_map, hx] <;> rfl)
    rw [hv2] at hu
    cases hu
    obtain ⟨t, e⟩ := (show ∃ t, v = Value.str xs[i] t from ru)
    exact ⟨xs[i], t, hx, e⟩
  · refine PyProof.Rows.args_nil ?_
    unfold Holds1 at hs
    rw [List.take_length] at hs
    obtain ⟨o, es, ep, t, ho, hex, hd, _, _, _, hf, hn⟩ := hs
    have I2 : Inv X pins σ H1 { s1 with heap := h', toks := tk } := I1.kept fun b o e => hk b o (Heap.lt_size e) e
    have le := dist_le xs
    exact call_len_set ho hex hd hf (by rw [hn] <;> omega) ⟨.int (dist xs).length, H1, I2.tok _, ⟨_, by rw [hn]⟩, q1⟩
end KR
/-! ### a < b < c <= d; a row's parts -/
namespace KR
open PySem PySem.Spec PyProof.Rows L2
section
variable {X : Cx} {a b c d : Expr} {ta tb tc td : TE} {pos : Pos}
def tChain3 (r r' r2 : R2) (ta tb tc td : TE) : TE := fun σ H Q => ta σ H fun x H1 => tb σ H1 fun y H2 => r x y H2 fun z H3 => ∃ k, z = .bl k ∧
  (if k = true then tc σ H3 fun u H4 => r' y u H4 fun z H5 => ∃ k, z = .bl k ∧ (if k = true then td σ H5 fun v H6 => r2 u v H6 Q else Q (.bl false) H5) else Q (.bl false) H3)
theorem pe_chain3 {op op' op2 : CmpOp} {r r' r2 : R2} (ho : OpR X (compareOp op) r) (ho' : OpR X (compareOp op') r') (ho2 : OpR X (compareOp op2) r2) (ha : PE X a ta) (hb : PE X b tb) (hc : PE X c tc) (hd : PE X d td)
    (hm : lastMarks [op, op', op2] [b, c, d] = false := by with_unfolding_all rfl) : PE X (.Compare a [op, op', op2] [b, c, d] pos) (tChain3 r r' r2 ta tb tc td) := by
  constructor
  intro pins s σ H Q I h
  refine Compare_chain (thn (ha.run pins s σ H _ I h) fun v s1 ⟨x, H1, I1, r1, q1⟩ => chain_link (thn (hb.run pins s1 σ H1 _ I1 q1) fun u s2 ⟨y, H2, I2, r2', q2⟩ => thn (ho pins s2 σ H2 x y v u _ I2 r1 r2' q2) fun e s3 ⟨z, H3, I3, r3, k, ez, q3⟩ => ?_)) hm
  subst ez
  cases r3
  refine wpAny_truthy_bool ?_
  cases k with
  | false => exact ite_ff ⟨.bl false, H3, I3, rfl, q3⟩
  | true =>
    refine ite_tt (chain_link (thn (hc.run pins s3 σ H3 _ I3 q3) fun u2 s4 ⟨y2, H4, I4, r4, q4⟩ => thn (ho' pins s4 σ H4 y y2 u u2 _ I4 r2' r4 q4) fun e2 s5 ⟨z2, H5, I5, r5, k2, ez2, q5⟩ => ?_))
    subst ez2
    cases r5
    refine wpAny_truthy_bool ?_
    cases k2 with
    | false => exact ite_ff ⟨.bl false, H5, I5, rfl, q5⟩
    | true => exact ite_tt (chain_last (thn (hd.run pins s5 σ H5 _ I5 q5) fun u3 s6 ⟨y3, H6, I6, r6, q6⟩ => ho2 pins s6 σ H6 y2 y3 u2 u3 Q I6 r4 r6 q6))
end
end KR
/-! ### kettles and moulds of a row -/
namespace KR
open PySem PySem.Spec PyProof.Rows L2
/-- two tuples, one behind the other: none of the first, or the second, is empty -/
def rCatTI (K : PySem.W.Frag) : R2 := fun x y H Q => ∃ a b xs ys, x = .ref a ∧ y = .ref b ∧ SqT K H a xs ∧ SqT K H b ys ∧ xs ≠ [] ∧ xs.length + ys.length ≤ sizeLine ∧ ∀ p H', Same H H' → SqT K H' p (xs ++ ys) → Q (.ref p) H'
/-- what is a tuple stays one -/
def TK (K : PySem.W.Frag) (H H' : Hp) : Prop := ∀ b xs, SqT K H b xs → SqT K H' b xs
/-- a NAME -/
structure Nm (x : Str) : Prop where
  lo : 1 ≤ x.length
  hi : x.length ≤ 8
  az : ∀ c ∈ TL.tl x, 97 ≤ c ∧ c ≤ 122
structure KetV (x : Str) (r f t b : Int) : Prop where
  nm : Nm x
  r0 : 1 ≤ r
  r1 : r ≤ 1000000
  f0 : 0 ≤ f
  f1 : f ≤ 10000
  t0 : 0 < t
  tb : t < b
  b1 : b ≤ 60
  cop : Nat.gcd t.natAbs b.natAbs = 1
structure MouV (x : Str) (r t b : Int) : Prop where
  nm : Nm x
  r0 : 1 ≤ r
  r1 : r ≤ 1000000
  t0 : 0 ≤ t
  tb : t < b
  b1 : b ≤ 12
  cop : Nat.gcd t.natAbs b.natAbs = 1
/-- a kettle of this name and data is read at v; a mould -/
def KetAt (K : PySem.W.Frag) (H : Hp) (v : V) (x : Str) (d : PyData) : Prop := ∃ (a m : Addr) (r f t b : Int), v = .ref a ∧ SqT K H a [.str x, .int r, .int f, .ref m] ∧ SqT K H m [.int t, .int b] ∧ KetV x r f t b ∧ d = .tuple [.str x, .int r, .int f, .tuple [.int t, .int b]]
def MouAt (K : PySem.W.Frag) (H : Hp) (v : V) (x : Str) (d : PyData) : Prop := ∃ (a m : Addr) (r t b : Int), v = .ref a ∧ SqT K H a [.str x, .int r, .ref m] ∧ SqT K H m [.int t, .int b] ∧ MouV x r t b ∧ d = .tuple [.str x, .int r, .tuple [.int t, .int b]]
/-- a row of such things -/
structure AllAt (At : V → Str → PyData → Prop) (vs : List V) (ns : List Str) (ds : List PyData) : Prop where
  ln : vs.length = ns.length
  ld : vs.length = ds.length
  at_ : ∀ (i : Nat) (v : V) (x : Str) (d : PyData), vs[i]? = some v → ns[i]? = some x → ds[i]? = some d → At v x d
section
variable {K : PySem.W.Frag} {H H' H2 : Hp} {v : V} {x : Str} {d : PyData} {vs ws : List V} {ns ms : List Str} {ds es : List PyData}
theorem TK.refl : TK K H H := fun _ _ h => h
theorem TK.trans (a : TK K H H') (b : TK K H' H2) : TK K H H2 := fun c xs h => b c xs (a c xs h)
theorem TK.sm (s : Sm H H') : TK K H H' := fun _ _ h => s.tup h
theorem TK.same (s : Same H H') : TK K H H' := fun _ _ h => Same.tup s h
theorem TK.fr {p : Addr} {n : Nat} (B : BoxAt H p n) (s : Fr p H H') : TK K H H' := fun _ _ h => sqT_fr h B s
/-- what is written where a list, an instance stands -/
theorem TK.upd {D : Addr} {o o2 : HO} (h : H D = some o) (n1 : ∀ xs, o ≠ .tup xs) (n2 : ∀ b y, o ≠ .frz b y) : TK K H (upd H D o2) := fun b xs e => by
  rcases e with (e | ⟨q, e⟩) | e
  · exact .inl (.inl (by rw [upd_ne fun z => n1 xs (by rw [z, h] at e; exact Option.some.inj e)]; exact e))
  · exact .inl (.inr ⟨q, by rw [upd_ne fun z => n2 _ _ (by rw [z, h] at e; exact Option.some.inj e)]; exact e⟩)
  · exact .inr e
theorem TK.fs {p : Addr} (h : ∀ xs, H p ≠ some (.tup xs)) (n2 : ∀ b y, H p ≠ some (.frz b y)) (s : Fs p H H') : TK K H H' := fun b xs e => by
  rcases e with (e | ⟨q, e⟩) | e
  · exact .inl (.inl (s.keep _ _ (fun z => h xs (by rw [← z]; exact e)) e nofun))
  · exact .inl (.inr ⟨q, s.keep _ _ (fun z => n2 _ _ (by rw [← z]; exact e)) e nofun⟩)
  · exact .inr e
theorem KetAt.tk (s : TK K H H') (h : KetAt K H v x d) : KetAt K H' v x d := by
  obtain ⟨a, m, r, f, t, b, e, h1, h2, k, z⟩ := h
  exact ⟨a, m, r, f, t, b, e, s _ _ h1, s _ _ h2, k, z⟩
theorem MouAt.tk (s : TK K H H') (h : MouAt K H v x d) : MouAt K H' v x d := by
  obtain ⟨a, m, r, t, b, e, h1, h2, k, z⟩ := h
  exact ⟨a, m, r, t, b, e, s _ _ h1, s _ _ h2, k, z⟩
theorem AllAt.map {A B : V → Str → PyData → Prop} (h : AllAt A vs ns ds) (k : ∀ v x d, A v x d → B v x d) : AllAt B vs ns ds := ⟨h.ln, h.ld, fun i v x d a b c => k v x d (h.at_ i v x d a b c)⟩
theorem AllAt.get {A : V → Str → PyData → Prop} (h : AllAt A vs ns ds) {i : Nat} (e : vs[i]? = some v) : ∃ x d, ns[i]? = some x ∧ ds[i]? = some d ∧ A v x d := by
  have lt := (List.getElem?_eq_some_iff.mp e).1
  have e1 : ns[i]? = some (ns[i]'(by rw [← h.ln]; exact lt)) := List.getElem?_eq_getElem _
  have e2 : ds[i]? = some (ds[i]'(by rw [← h.ld]; exact lt)) := List.getElem?_eq_getElem _
  exact ⟨_, _, e1, e2, h.at_ i v _ _ e e1 e2⟩
theorem AllAt.nil {A : V → Str → PyData → Prop} : AllAt A [] [] [] := ⟨rfl, rfl, fun i v x d h => by simp at h⟩
theorem AllAt.snoc {A : V → Str → PyData → Prop} (h : AllAt A vs ns ds) (k : A v x d) : AllAt A (vs ++ [v]) (ns ++ [x]) (ds ++ [d]) := by
  refine ⟨by rw [List.length_append, List.length_append, h.ln] <;> rfl, by rw [List.length_append, List.length_append, h.ld] <;> rfl, fun i u y e e1 e2 e3 => ?_⟩
  by_cases c : i < vs.length
  · rw [List.getElem?_append_left c] at e1
    rw [List.getElem?_append_left (by rw [← h.ln]; exact c)] at e2
    rw [List.getElem?_append_left (by rw [← h.ld]; exact c)] at e3
    exact h.at_ i u y e e1 e2 e3
  · have hi : i = vs.length := by
      have := (List.getElem?_eq_some_iff.mp e1).1
      rw [List.length_append, List.length_singleton] at this
      omega
    subst hi
    rw [List.getElem?_append_right (Nat.le_refl _), Nat.sub_self] at e1
    rw [List.getElem?_append_right (by rw [h.ln]; exact Nat.le_refl _), h.ln, Nat.sub_self] at e2
    rw [List.getElem?_append_right (by rw [h.ld]; exact Nat.le_refl _), h.ld, Nat.sub_self] at e3
    cases e1
    cases e2
    cases e3
    exact k
/-- how a name can be laid out -/
theorem Nm.lay (h : Nm x) : PyData.canLay0 (.str x) = true := by
  show PyData.strOk x = true
  unfold PyData.strOk
  rw [← Array.all_toList, List.all_eq_true]
  intro c hc
  have := (h.az c hc).2
  exact decide_eq_true (Nat.lt_of_le_of_lt this (by decide))
theorem KetAt.dk (h : KetAt K H v x d) : Dk K H 3 v d := by
  obtain ⟨a, m, r, f, t, b, rfl, h1, h2, k, rfl⟩ := h
  exact DkAll.tup (.cons (.str _ _ k.nm.lay) (.cons (.int _ _) (.cons (.int _ _) (.cons (DkAll.tup (.cons (.int _ _) (.cons (.int _ _) .nil)) h2) .nil)))) h1
theorem MouAt.dk (h : MouAt K H v x d) : Dk K H 3 v d := by
  obtain ⟨a, m, r, t, b, rfl, h1, h2, k, rfl⟩ := h
  exact DkAll.tup (.cons (.str _ _ k.nm.lay) (.cons (.int _ _) (.cons (DkAll.tup (.cons (.int _ _) (.cons (.int _ _) .nil)) h2) .nil))) h1
theorem AllAt.dk (h : AllAt (KetAt K H) vs ns ds) : DkAll K H 3 vs ds := ⟨h.ld, fun i v d e1 e2 => by
  obtain ⟨x, d2, _, e3, k⟩ := h.get e1
  rw [e2] at e3
  cases e3
  exact k.dk⟩
theorem AllAt.dkm (h : AllAt (MouAt K H) vs ns ds) : DkAll K H 3 vs ds := ⟨h.ld, fun i v d e1 e2 => by
  obtain ⟨x, d2, _, e3, k⟩ := h.get e1
  rw [e2] at e3
  cases e3
  exact k.dk⟩
end
/-- a proper part, in lowest terms, keeps its bounds -/
theorem low_box {t b : Int} (h0 : 0 ≤ t) (h1 : t < b) (hb : 0 < b) : 0 ≤ (low t b).1 ∧ (low t b).1 < (low t b).2 ∧ (low t b).2 ≤ b ∧ Nat.gcd (low t b).1.natAbs (low t b).2.natAbs = 1 ∧ (0 < t → 0 < (low t b).1) := by
  obtain ⟨k, e⟩ := low_facts t b (by omega)
  have kp := k.pos
  generalize (low t b).1 = u at *
  generalize (low t b).2 = v at *
  have e1 : t * v = u * b := e
  have u0 : 0 ≤ u := Int.not_lt.mp fun z => by
    have a1 : 0 ≤ t * v := Int.mul_nonneg h0 (by omega)
    have a2 : u * b < 0 := Int.mul_neg_of_neg_of_pos z hb
    omega
  have uv : u < v := Int.not_le.mp fun z => by
    have a1 : t * v < b * v := Int.mul_lt_mul_of_pos_right h1 kp
    have a2 : v * b ≤ u * b := Int.mul_le_mul_of_nonneg_right z (by omega)
    rw [Int.mul_comm v b] at a2
    omega
  refine ⟨u0, uv, ?_, k.cop, fun t0 => ?_⟩
  · have d1 : v.natAbs ∣ u.natAbs * b.natAbs := ⟨t.natAbs, by rw [← Int.natAbs_mul, ← e1, Int.natAbs_mul, Nat.mul_comm]⟩
    have d2 : v.natAbs ∣ b.natAbs := (Nat.Coprime.dvd_of_dvd_mul_left (k := v.natAbs) (by rw [Nat.coprime_comm]; exact k.cop) d1)
    have := Nat.le_of_dvd (by omega) d2
    omega
  · refine Int.not_le.mp fun z => ?_
    have uz : u = 0 := by omega
    rw [uz, Int.zero_mul] at e1
    have a1 : 0 < t * v := Int.mul_pos t0 kp
    omega
theorem op_catTI {X : Cx} {K : PySem.W.Frag} (h : X.K = K) : OpR X (binaryOp .Add) (rCatTI K) := fun pins s σ H x y v u Q I rx ry ⟨a, b, xs, ys, e1, e2, h1, h2, n, z, k⟩ => by
  subst h
  exact op_catT pins s σ H x y v u Q I rx ry ⟨a, b, xs, ys, e1, e2, h1, h2, n, z, fun ye => by subst ye; exact k a H (Same.refl _) (by rw [List.append_nil]; exact h1), fun ye p hp => k p _ (same_new hp) (SqT.of upd_same)⟩
end KR
/-! ### things of any make beside the box p: tuples of the written part among them, whole numbers of some sixty figures -/
namespace KR
open PySem PySem.Spec PyProof.Rows L2
inductive Dj (K : PySem.W.Frag) (p : Addr) (H : Hp) : Nat → V → PyData → Prop
  | non (n : Nat) : Dj K p H (n + 1) .non .none
  | bl (n : Nat) (b : Bool) : Dj K p H (n + 1) (.bl b) (.bool b)
  | int (n : Nat) (i : Int) (h : i.natAbs < 2 ^ 200) : Dj K p H (n + 1) (.int i) (.int i)
  | str (n : Nat) (x : Str) : Dj K p H (n + 1) (.str x) (.str x)
  | lst {n : Nat} {a : Addr} {xs : List V} {ds : List PyData} : a ≠ p → H a = some (.lst xs) → xs.length = ds.length → xs.length ≤ 100000 → (∀ (i : Nat) (x : V) (d : PyData), xs[i]? = some x → ds[i]? = some d → Dj K p H n x d) → Dj K p H (n + 1) (.ref a) (.list ds)
  | tup {n : Nat} {a : Addr} {xs : List V} {ds : List PyData} : SqT K H a xs → xs.length = ds.length → xs.length ≤ 100000 → (∀ (i : Nat) (x : V) (d : PyData), xs[i]? = some x → ds[i]? = some d → Dj K p H n x d) → Dj K p H (n + 1) (.ref a) (.tuple ds)
variable {K : PySem.W.Frag} {p : Addr} {H H' : Hp} {n m : Nat} {v : V} {d : PyData}
theorem Dj.fr (B : BoxAt H p m) (s : Fr p H H') (h : Dj K p H n v d) : Dj K p H' n v d := by
  induction h with
  | non n => exact .non n
  | bl n b => exact .bl n b
  | int n i h => exact .int n i h
  | str n x => exact .str n x
  | lst h0 h1 h2 h3 _ ih => exact .lst h0 (s _ _ h0 h1) h2 h3 ih
  | tup h1 h2 h3 _ ih => exact .tup (sqT_fr h1 B s) h2 h3 ih
theorem Dj.sm (s : Sm H H') (h : Dj K p H n v d) : Dj K p H' n v d := by
  induction h with
  | non n => exact .non n
  | bl n b => exact .bl n b
  | int n i h => exact .int n i h
  | str n x => exact .str n x
  | lst h0 h1 h2 h3 _ ih => exact .lst h0 (s.lst h1) h2 h3 ih
  | tup h1 h2 h3 _ ih => exact .tup (s.tup h1) h2 h3 ih
theorem Dj.same (s : Same H H') (h : Dj K p H n v d) : Dj K p H' n v d := h.sm (.of s)
theorem Dj.up (h : Dj K p H n v d) : n ≤ m → Dj K p H m v d := by
  intro le
  induction h generalizing m with
  | non n => obtain ⟨k, rfl⟩ : ∃ k, m = k + 1 := ⟨m - 1, by omega⟩; exact .non k
  | bl n b => obtain ⟨k, rfl⟩ : ∃ k, m = k + 1 := ⟨m - 1, by omega⟩; exact .bl k b
  | int n i h => obtain ⟨k, rfl⟩ : ∃ k, m = k + 1 := ⟨m - 1, by omega⟩; exact .int k i h
  | str n x => obtain ⟨k, rfl⟩ : ∃ k, m = k + 1 := ⟨m - 1, by omega⟩; exact .str k x
  | lst h0 h1 h2 h3 _ ih => obtain ⟨k, rfl⟩ : ∃ k, m = k + 1 := ⟨m - 1, by omega⟩; exact .lst h0 h1 h2 h3 fun i x d a b => ih i x d a b (by omega)
  | tup h1 h2 h3 _ ih => obtain ⟨k, rfl⟩ : ∃ k, m = k + 1 := ⟨m - 1, by omega⟩; exact .tup h1 h2 h3 fun i x d a b => ih i x d a b (by omega)
theorem Dj.kinds (h : Dj K p H n v d) : ∃ t, Kinds K H v d t := by
  cases h with
  | non => exact ⟨"NoneType", .base .non, by decide +kernel, by decide +kernel, by decide +kernel, by decide +kernel, by decide +kernel⟩
  | bl _ b => exact ⟨"bool", .base (.bl b), by show _ = some false; decide +kernel, by show _ = some false; decide +kernel, by show _ = some true; decide +kernel, by show _ = some true; decide +kernel, by show _ = some false; decide +kernel⟩
  | int _ i => exact ⟨"int", .base (.int i), by show _ = some false; decide +kernel, by show _ = some false; decide +kernel, by show _ = some true; decide +kernel, by show _ = some false; decide +kernel, by show _ = some false; decide +kernel⟩
  | str _ x => exact ⟨"str", .base (.str x), by show _ = some false; decide +kernel, by show _ = some false; decide +kernel, by show _ = some false; decide +kernel, by show _ = some false; decide +kernel, by show _ = some true; decide +kernel⟩
  | lst _ a1 => exact ⟨"list", .base (.lst a1), by show _ = some false; decide +kernel, by show _ = some true; decide +kernel, by show _ = some false; decide +kernel, by show _ = some false; decide +kernel, by show _ = some false; decide +kernel⟩
  | tup a1 => exact ⟨"tuple", sqT_ty a1, by show _ = some true; decide +kernel, by show _ = some false; decide +kernel, by show _ = some false; decide +kernel, by show _ = some false; decide +kernel, by show _ = some false; decide +kernel⟩
/-- each of a row is such a thing -/
def AllDj (K : PySem.W.Frag) (p : Addr) (H : Hp) (n : Nat) (xs : List V) : Prop := ∀ x ∈ xs, ∃ d, Dj K p H n x d
theorem AllDj.fr {xs : List V} (h : AllDj K p H n xs) (B : BoxAt H p m) (s : Fr p H H') : AllDj K p H' n xs := fun x hx => (h x hx).elim fun d q => ⟨d, q.fr B s⟩
theorem AllDj.same {xs : List V} (h : AllDj K p H n xs) (s : Same H H') : AllDj K p H' n xs := fun x hx => (h x hx).elim fun d q => ⟨d, q.same s⟩
theorem AllDj.nil : AllDj K p H n [] := fun x hx => absurd hx List.not_mem_nil
theorem AllDj.cons {x : V} {xs : List V} (h : ∃ d, Dj K p H n x d) (t : AllDj K p H n xs) : AllDj K p H n (x :: xs) := fun y hy => by
  rcases List.mem_cons.mp hy with e | e
  · rw [e]
    exact h
  · exact t y e
theorem AllDj.append {xs ys : List V} (h : AllDj K p H n xs) (t : AllDj K p H n ys) : AllDj K p H n (xs ++ ys) := fun y hy => (List.mem_append.mp hy).elim (h y) (t y)
theorem AllDj.pick : ∀ {xs : List V}, AllDj K p H n xs → ∃ ds : List PyData, xs.length = ds.length ∧ ∀ (i : Nat) (x : V) (d : PyData), xs[i]? = some x → ds[i]? = some d → Dj K p H n x d
  | [], _ => ⟨[], rfl, fun i x d h => by simp at h⟩
  | x :: xs, h => by
    obtain ⟨d, q⟩ := h x List.mem_cons_self
    obtain ⟨ds, e, r⟩ := AllDj.pick (xs := xs) fun y hy => h y (List.mem_cons_of_mem _ hy)
    refine ⟨d :: ds, by rw [List.length_cons, List.length_cons, e], fun i y c h1 h2 => ?_⟩
    match i, h1, h2 with
    | 0, h1, h2 => cases h1; cases h2; exact q
    | i + 1, h1, h2 => exact r i y c h1 h2
theorem AllDj.tup {xs : List V} {a : Addr} (h : AllDj K p H n xs) (e : SqT K H a xs) (z : Nat.ble xs.length 100000 = true := by rfl) : ∃ d, Dj K p H (n + 1) (.ref a) d := by
  obtain ⟨ds, l, r⟩ := h.pick
  exact ⟨_, .tup e l (Nat.le_of_ble_eq_true z) r⟩
theorem AllDj.lst {xs : List V} {a : Addr} (h : AllDj K p H n xs) (ne : a ≠ p) (e : H a = some (.lst xs)) (z : Nat.ble xs.length 100000 = true := by rfl) : ∃ d, Dj K p H (n + 1) (.ref a) d := by
  obtain ⟨ds, l, r⟩ := h.pick
  exact ⟨_, .lst ne e l (Nat.le_of_ble_eq_true z) r⟩
theorem djI (i : Int) (h : i.natAbs < 2 ^ 200 := by decide) : ∃ d, Dj K p H (n + 1) (.int i) d := ⟨_, .int n i h⟩
theorem djB (b : Bool) : ∃ d, Dj K p H (n + 1) (.bl b) d := ⟨_, .bl n b⟩
theorem djS (x : Str) : ∃ d, Dj K p H (n + 1) (.str x) d := ⟨_, .str n x⟩
theorem djN : ∃ d, Dj K p H (n + 1) .non d := ⟨_, .non n⟩
theorem AllDj.one {x : V} (h : ∃ d, Dj K p H n x d) (le : n ≤ m := by omega) : AllDj K p H m [x] := .cons (h.elim fun d q => ⟨d, q.up le⟩) .nil
theorem AllDj.two {x y : V} (h : ∃ d, Dj K p H n x d) (k : ∃ d, Dj K p H n y d) : AllDj K p H n [x, y] := .cons h (.cons k .nil)
theorem dj_up (h : ∃ d, Dj K p H n v d) (le : n ≤ m := by omega) : ∃ d, Dj K p H m v d := h.elim fun d q => ⟨d, q.up le⟩
theorem dj_fr (h : ∃ d, Dj K p H n v d) (B : BoxAt H p m) (s : Fr p H H') : ∃ d, Dj K p H' n v d := h.elim fun d q => ⟨d, q.fr B s⟩
theorem dj_same (h : ∃ d, Dj K p H n v d) (s : Same H H') : ∃ d, Dj K p H' n v d := h.elim fun d q => ⟨d, q.same s⟩
theorem FrQ.dj {x : Addr} {q : Rat} (h : FrQ K H x q) (z : Sz 200 q) : ∃ d, Dj K p H 2 (.ref x) d := (AllDj.two (djI (n := 0) _ z.1) (djI _ z.2)).tup h
theorem FrQ.djx {x : Addr} {q : Rat} (h : FrQ K H x q) (z : Sz 200 q) : Dj K p H 2 (.ref x) (dq q) := .tup h rfl (by show 2 ≤ 100000; decide) fun i u c hu hc => match i, hu, hc with
  | 0, hu, hc => by cases hu; cases hc; exact .int 0 _ z.1
  | 1, hu, hc => by cases hu; cases hc; exact .int 0 _ z.2
  | i + 2, hu, _ => by simp at hu
theorem JuQ.djx {x : Addr} {s w : Rat} (h : JuQ K H x s w) (zs : Sz 200 s) (zw : Sz 200 w) : Dj K p H 3 (.ref x) (dj s w) := by
  obtain ⟨a, b, h1, h2, h3⟩ := h
  exact .tup h1 rfl (by show 2 ≤ 100000; decide) fun i u c hu hc => match i, hu, hc with
    | 0, hu, hc => by cases hu; cases hc; exact h2.djx zs
    | 1, hu, hc => by cases hu; cases hc; exact h3.djx zw
    | i + 2, hu, _ => by simp at hu
theorem two_bools (a b : Bool) : (PyData.shown (.list [.bool a, .bool b])).length ≤ sizeLine := by
  refine Nat.le_trans ?_ (by decide : 64 ≤ sizeLine)
  cases a <;> cases b <;> decide +kernel
theorem dj_num (h : Dj K p H n v d) (k : isNumD d = true) : ∃ i, d = .int i ∧ v = .int i ∧ i.natAbs < 2 ^ 200 := by
  cases h with
  | int _ i h => exact ⟨i, rfl, rfl, h⟩
  | non => cases k
  | bl => cases k
  | str => cases k
  | lst => cases k
  | tup => cases k
/-- a fraction not below 0; a juice -/
def isFracN : PyData → Bool
  | .tuple [.int t, .int b] => isFracD (.tuple [.int t, .int b]) && decide (0 ≤ t)
  | _ => false
def isJuiceD : PyData → Bool
  | .tuple ds => decide (ds.length = 2) && ds.all isFracN
  | _ => false
theorem fracD_form {d : PyData} (h : isFracD d = true) : ∃ t b : Int, d = .tuple [.int t, .int b] ∧ 0 < b ∧ Nat.gcd t.natAbs b.natAbs = 1 := by
  unfold isFracD at h
  split at h
  · rename_i t b
    rw [Bool.and_eq_true] at h
    exact ⟨t, b, rfl, of_decide_eq_true h.1, of_decide_eq_true h.2⟩
  · cases h
theorem fracN_no {d : PyData} (h : isFracD d = false) : isFracN d = false := by
  unfold isFracN
  split
  · rw [h] <;> rfl
  · rfl
theorem dj_frac (h : Dj K p H n v d) (k : isFracD d = true) : ∃ (a : Addr) (t b : Int), v = .ref a ∧ d = .tuple [.int t, .int b] ∧ SqT K H a [.int t, .int b] := by
  obtain ⟨t, b, rfl, _⟩ := fracD_form k
  cases h with
  | tup h1 h2 h3 h4 =>
    rename_i n a xs
    match xs, h2, h1, h4 with
    | [x, y], _, h1, h4 =>
      have X := h4 0 x _ rfl rfl
      have Y := h4 1 y _ rfl rfl
      cases X
      cases Y
      exact ⟨a, t, b, rfl, rfl, h1⟩
/-- the data of a fraction that is read -/
theorem isFracN_rat {q : Rat} (h : 0 ≤ q) : isFracN (dq q) = true := by
  show (decide ((0 : Int) < (q.den : Int)) && decide (Nat.gcd q.num.natAbs (q.den : Int).natAbs = 1) && decide (0 ≤ q.num)) = true
  rw [decide_eq_true (rat_low q).pos, decide_eq_true (rat_low q).cop, decide_eq_true (num_nn.mpr h)] <;> rfl
theorem isJuiceD_rat {s w : Rat} (hs : 0 ≤ s) (hw : 0 ≤ w) : isJuiceD (dj s w) = true := by
  show (decide (([dq s, dq w] : List PyData).length = 2) && (isFracN (dq s) && (isFracN (dq w) && true))) = true
  rw [isFracN_rat hs, isFracN_rat hw] <;> rfl
theorem rq_rest (t : Rat) : rq ((t.den : Int) - t.num) t.den = 1 - t := by
  have e := rq_sub 1 t
  rw [← e]
  show _ = rq (1 * (t.den : Int) - t.num * 1) (1 * (t.den : Int))
  rw [Int.one_mul, Int.mul_one]
end KR
/-! ### a caught exception that is kept behind its suite -/
namespace KR
open PySem PySem.Spec PyProof.Rows L2
/-- an exception that was caught, at a: its class, its own dict -/
def ExK (cls : Value) (d : Option Addr) (a : Addr) : HO := .ext fun g => ∃ (ob : Obj) (fs : Array Value), g.get? a = some ob ∧ Zc cls d ob ∧ ob.data = .fields fs
theorem exK_ok {P : Program} {w : World} {H : Hp} {g : Heap} {a : Addr} {cls : Value} {d : Option Addr} {ob : Obj} {fs : Array Value} (e : g.get? a = some ob) (z : Zc cls d ob) (k : ob.data = .fields fs) : ObjOk P w H g a (ExK cls d a) :=
  ⟨⟨ob, fs, e, z, k⟩, ⟨ob, e⟩, fun _ _ ⟨o, v, q, r⟩ m => ⟨o, v, m o q, r⟩⟩
/-- on with the object told -/
def wKeep (K : PySem.W.Frag) (c : Value) (i : Nat) (ts : Addr → Value → Option Addr → TS) (Wo : WX) (D : Ends) : WX := fun cls d σ H =>
  ∃ hit, PySem.W.exmOne K cls c = some hit ∧
    (hit = true → ∀ a, H a = none → ts a cls d { D with nx := fun τ G => D.nx (τ.set i none) (upd G a (ExK cls d a)), bk := fun τ G => D.bk (τ.set i none) G, ct := fun τ G => D.ct (τ.set i none) G } (σ.set i (some (.ref a))) H) ∧
    (hit = false → Wo cls d σ H)
section
variable {X : Cx} {pins : List (Addr × Obj)} {σ : L2.St} {H : Hp} {s : Shared}
/-- an object that nobody tracks, new since the entry, is tracked from now on -/
theorem Inv.track {a : Addr} {o : HO} (I : Inv X pins σ H s) (na : H a = none) (old : a ∈ X.ex ∨ X.s_0.heap.get? a = none) (nL : a ≠ X.env.locals) (nC : ∀ z c, X.env.cells.lookup z = some c → c ≠ a)
    (nP : ∀ p ∈ X.pn ++ pins, p.1 ≠ a) (new : ObjOk X.prog X.w (upd H a o) s.heap a o) : Inv X pins σ (upd H a o) s := by
  refine ⟨I.ok, I.os, I.bare, ⟨I.base.keep, I.base.slot, ?_, I.base.there, ?_, ?_, ?_⟩, I.loc, I.cell, ?_, ?_, ?_, ?_, I.len⟩
  · intro b ob e1 e2 e3
    have ne : b ≠ a := fun z => by
      rw [z] at e1 e3
      rcases old with q | q
      · exact e3 q
      · rw [q] at e1
        cases e1
    rw [upd_ne ne]
    exact I.base.free b ob e1 e2 e3
  · intro b xs e
    have e' := I.base.tups b xs e
    rw [upd_ne (ne_of_none e' na)]
    exact e'
  · intro b ob u e
    have e' := I.base.frzs b ob u e
    rw [upd_ne (ne_of_none e' na)]
    exact e'
  · intro b ps e
    obtain ⟨more, e'⟩ := I.base.tbls b ps e
    refine ⟨more, ?_⟩
    rw [upd_ne (ne_of_none e' na)]
    exact e'
  · rw [upd_ne (Ne.symm nL)]
    exact I.free
  · intro z c e
    rw [upd_ne (nC z c e)]
    exact I.freeC z c e
  · intro p hp
    obtain ⟨h1, h2, h3, h4, h5⟩ := I.pin p hp
    refine ⟨h1, ?_, h3, h4, h5⟩
    rw [upd_ne (nP p hp)]
    exact h2
  · intro b u e
    by_cases z : b = a
    · subst z
      rw [upd_same] at e
      cases e
      exact new
    · rw [upd_ne z] at e
      refine (I.hok b u e).stay (fun _ _ _ g => g) (fun c g => ?_) fun c xs g => ?_
      · rw [upd_ne (ne_of_none g na)]
        exact g
      · rw [upd_ne (ne_of_none g na)]
        exact g
end
section
variable {X : Cx} {x n : Str} {c : Value} {i : Nat} {body suite : List Stmt} {b0 : Stmt} {p1 p2 p3 : Pos} {tb : WX → TS} {ts : Addr → Value → Option Addr → TS} {Wo : WX}
/-- try .. except x as n: what the suite keeps of the exception may be asked behind it -/
theorem ps_try_keep (stk : X.stack = X.env :: X.outer) (frm : X.env.frame = some X.env.locals) (nd : X.N.Nodup) (sl : X.N[i]? = some n) (kn : X.env.kindOf n = some .local) (nm : Names X x c) (out : Takes X Wo)
    (hbody : ∀ (W : WX) (pn : List (Addr × Obj)) (xe : Value → Shared → Prop), Takes (X.tr pn xe) W → PassesOwn (model X.prog X.w) X.A X.env xe → PSs (X.tr pn xe) body (tb W))
    (hsuite : ∀ (a : Addr) (ob : Obj) (cls : Value) (d : Option Addr) (pn : List (Addr × Obj)), Zc cls d ob → (∃ fs, ob.data = .fields fs) → PSs (X.suite a ((a, ob) :: pn)) (b0 :: suite) (ts a cls d)) :
    PS X (.Try body [.ExceptHandler (some (.Name x p1)) (some n) (b0 :: suite) p2] [] [] p3) (fun D σ H => tb (wKeep X.K c i ts Wo D) D σ H) := by
  constructor
  intro pins s σ H D I ask
  have fine := I.ok
  have frames : X.A.frames = some (X.env :: X.outer) := by rw [fine.frames, stk]
  have place : Loc X.env.scope n := .inl kn
  refine wpAny_Try_except ?_
  refine wpAny_mono ((hbody (wKeep X.K c i ts Wo D) (X.pn ++ pins) (fun e t1 => wpAny (model X.prog X.w) X.A (noteFrame e X.env) (fun _ t2 => wpAny (model X.prog X.w) X.A (setFlight e none) (fun _ t3 =>
    wpAny (model X.prog X.w) X.A (handleBy e X.env [.ExceptHandler (some (.Name x p1)) (some n) (b0 :: suite) p2]) (SP X pins D) X.xe t3) X.xe t2) X.xe t1) (fun v t0 air => ?caught) PassesOwn.looking).run [] s σ H D (I.toTry _) ask) (fun f s1 sp => ?done) (fun _ _ h => h)
  case done =>
    cases f with
    | next =>
      obtain ⟨τ, G, J, more⟩ := sp
      exact wpAny_execs_nil ⟨τ, G, J.ofTry fine, more⟩
    | brk =>
      obtain ⟨τ, G, J, more⟩ := sp
      exact ⟨τ, G, J.ofTry fine, more⟩
    | cont =>
      obtain ⟨τ, G, J, more⟩ := sp
      exact ⟨τ, G, J.ofTry fine, more⟩
    | ret u =>
      obtain ⟨v, τ, G, J, rel, more⟩ := sp
      exact ⟨v, τ, G, J.ofTry fine, rel, more⟩
  case caught =>
    obtain ⟨a, B, sB, ps, τ, G, cls, d, rfl, J0, ground, up0, sky, na, os, bare, hit, eHit, yes, no⟩ := air
    have J : Inv X pins τ G sB := J0.ofTry fine
    have sky1 : Sky B (X.env :: X.outer) a (Zc cls d) X.env.locals t0.heap := by rw [← stk]; exact sky
    show wpAny (model X.prog X.w) X.A (noteFrame (.ref a) X.env) _ _ _
    refine Sky.land Zc.steady frames frm sky1 fun g1 fly1 up1 => ?_
    obtain ⟨ob1, fs1, at_1, z1, d1⟩ := fly1.there
    have noFrame : a ∉ frs (X.env :: X.outer) := fun m => by
      obtain ⟨_, o2, e2, bad⟩ := fly1.2.2.1.mem m
      rw [at_1] at e2
      cases e2
      exact bad _ d1
    have nL : a ≠ X.env.locals := fun z => noFrame (List.mem_filterMap.mpr ⟨X.env, List.mem_cons_self, by rw [frm, z]⟩)
    have nF : a ∉ X.fs := fun m => by
      obtain ⟨e, he, q⟩ := List.mem_filterMap.mp m
      exact noFrame (List.mem_filterMap.mpr ⟨e, List.mem_cons_of_mem _ he, q⟩)
    -- the object is new since the entry
    have fresh : sB.heap.get? a = none := by
      cases e : sB.heap.get? a with
      | none => rfl
      | some o =>
        have inB := ground a o e (by rw [stk]; exact noFrame)
        rw [fly1.2.1] at inB
        cases inB
    have old : a ∈ X.ex ∨ X.s_0.heap.get? a = none := by
      by_cases ex : a ∈ X.ex
      · exact .inl ex
      · right
        cases e : X.s_0.heap.get? a with
        | none => rfl
        | some o =>
          obtain ⟨o2, e2⟩ := J.base.there a o e ex
          rw [fresh] at e2
          cases e2
    have J1 : Inv X pins τ G { t0 with heap := g1 } := J.landed ground fly1.1 (up0.trans up1) os bare
    have inner := J1.suite at_1 d1 na nL nF
    refine wpAny_handleBy_cons (codeAny_handlers_test ?_) (by intro q; cases q)
    have kind : PySem.W.Looks (model X.prog X.w) g1 (typeOf (.ref a)) cls := fun _ _ _ _ k q => wpAny_typeOf_ref (k _ _ at_1) (by rw [z1.1]; exact q)
    have match_ := PySem.W.exm_one (M := model X.prog X.w) J1.kIn kind eHit
    have named : ∀ {R : Value → Shared → Prop} {E : Value → Shared → Prop}, R c { t0 with heap := g1 } → wpAny (model X.prog X.w) (X.A.mark (some (.ref a))) (eval (.Name x p1) X.env) R E { t0 with heap := g1 } := fun {R E} r => by
      obtain ⟨u1, u2, u3 | ⟨u3, u4, u5⟩⟩ := nm
      · exact ld_glob (X := X.suite a ((a, ob1) :: (X.pn ++ pins))) inner u1 u3 r u2
      · exact ld_blt (X := X.suite a ((a, ob1) :: (X.pn ++ pins))) inner u1 u3 u4 r u5 u2
    refine named (match_.here ?_)
    have noPin : ∀ p ∈ X.pn ++ pins, p.1 ≠ a := fun p hp z => by
      have q := (J.pin p hp).1
      rw [z, fresh] at q
      cases q
    have noCell : ∀ z c, X.env.cells.lookup z = some c → c ≠ a := fun z c e q => by
      obtain ⟨v, o, e1, _⟩ := J.cell z c e
      rw [q, fresh] at e1
      cases e1
    cases hit with
    | true =>
      refine codeAny_handlers_suite_as ?_
      refine HandSPX.lands_againZ fly1 fun g2 fly2 up2 => ?_
      obtain ⟨ob2, fs2, at_2, z2, d2⟩ := fly2.there
      have J2 : Inv X pins τ G { t0 with heap := g2 } := J.landed ground fly2.1 ((up0.trans up1).trans up2) os bare
      have within := J2.suite at_2 d2 na nL nF
      refine store_ok (X := X.suite a ((a, ob2) :: (X.pn ++ pins))) (v := .ref a) within nd sl place rfl (fun t3 J3 => ?_) (.inr kn)
      refine wpAny_mono ((hsuite a ob2 cls d (X.pn ++ pins) z2 ⟨_, d2⟩).run [] t3 _ G _ J3 (yes rfl a na)) (fun f t4 sp => ?_) (fun _ _ z => False.elim z)
      have leave : ∀ {τ4 : L2.St} {G4 : Hp} {R : Shared → Prop}, Inv (X.suite a ((a, ob2) :: (X.pn ++ pins))) [] τ4 G4 t4 → (∀ t5, Inv (X.suite a ((a, ob2) :: (X.pn ++ pins))) [] (τ4.set i none) G4 t5 → R t5) →
          wpAny (model X.prog X.w) X.A (do bindName X.env n .none; unbindBehindTheSuite X.env n p2) (fun _ t5 => R t5) X.xe t4 := fun {τ4 G4 R} J4 r =>
        gone_ok (X := X.suite a ((a, ob2) :: (X.pn ++ pins))) J4 nd sl kn r
      cases f with
      | next =>
        obtain ⟨τ4, G4, J4, more⟩ := sp
        refine leave J4 fun t5 J5 => ?_
        obtain ⟨k1, k2, _⟩ := J5.pin (a, ob2) (List.mem_append_left _ List.mem_cons_self)
        have J6 := J5.unsuite fine
        exact ⟨_, _, Inv.track J6 k2 old nL noCell noPin (exK_ok k1 z2 d2), more⟩
      | brk =>
        obtain ⟨τ4, G4, J4, more⟩ := sp
        exact leave J4 fun t5 J5 => ⟨_, _, J5.unsuite fine, more⟩
      | cont =>
        obtain ⟨τ4, G4, J4, more⟩ := sp
        exact leave J4 fun t5 J5 => ⟨_, _, J5.unsuite fine, more⟩
      | ret u =>
        obtain ⟨v, τ4, G4, J4, rel, more⟩ := sp
        exact leave J4 fun t5 J5 => ⟨_, _, _, J5.unsuite fine, rel, more⟩
    | false =>
      show wpAny _ X.A (handleBy (.ref a) X.env []) _ _ _
      refine wpAny_handleBy_nil ?_
      obtain ⟨_, _, _, o3, v3, T3, l3, w3, in3, z3, data3, slot3, _⟩ := id fly1
      unfold PySem.passOn
      refine wpAny_bind (wpAny_field in3 data3 slot3 ?_)
      have ref3 : ¬ ((Value.ref T3 == Value.none) = true) := by simp
      rw [if_neg ref3]
      have throw3 : wpAny (model X.prog X.w) X.A (setFlight (.ref a) X.env.frame) (fun _ t4 => wpAny (model X.prog X.w) X.A (throw (.ref a) : Sem Flow) (SP X pins D) X.xe t4) X.xe { t0 with heap := g1 } := by
        rw [frm]
        refine HandSPX.setFlight_upZ fly1 fun g2 held2 up2 => wpAny_throw (out _ _ ?_)
        have sky2 : Sky B X.stack a (Zc cls d) X.env.locals g2 := .inr (.inr (by rw [stk]; exact held2))
        exact ⟨a, B, sB, pins, τ, G, cls, d, rfl, J, ground, (up0.trans up1).trans up2, sky2, na, os, bare, no rfl⟩
      first
        | exact wpAny_bind throw3
        | exact wpAny_bind (wpAny_pure (wpAny_bind throw3))
end
/-- what the written part says of a class whose objects are caught -/
structure ExcFacts (K : PySem.W.Frag) (C : Addr) : Prop where
  cl : (PySem.W.clsIn K C).isSome = true
  ga : PySem.W.findIn K (.ref C) "__getattribute__" = some (some (.builtin "BaseException.__getattribute__"))
  gg : PySem.W.findIn K (.ref C) "__getattr__" = some none
  sub : PySem.W.subIn K (.ref C) (.type "BaseException") = some true
  cls : PySem.W.findIn K (.ref C) "__class__" = some (some (.builtin "object.__class__"))
  get : PySem.W.specialIn K (.builtin "object.__class__") "__get__" = some (some (.builtin "getset_descriptor.__get__"))
  tak : PySem.W.takesIn K (.builtin "object.__class__") = some true
  obj : PySem.W.mroIn K C (.type "object") = some true
  dic : PySem.W.hasDictIn K C = true
  fld : PySem.W.findIn K (.ref C) "what" = some none
/-- which classes an exception's class stands under, by what the written part says of both -/
theorem kit_own {K : PySem.W.Frag} {C D : Addr} {b : Bool} (h1 : PySem.W.isClsIn K D = true) (h2 : PySem.W.typeIn K (.ref D) = some (.type "type")) (h3 : PySem.W.subIn K (.ref C) (.ref D) = some b) (h4 : PySem.W.subIn K (.ref C) (.ref C) = some true) : PySem.W.kitOne K (.ref C) (.ref D) = some b := by
  unfold PySem.W.kitOne
  by_cases e : (Value.ref C == Value.ref D) = true
  · rw [if_pos e]
    have e2 : Value.ref C = Value.ref D := eq_of_beq e
    rw [← e2, h4] at h3
    exact h3
  · rw [if_neg e]
    show (if ((PySem.W.clsIn K D).isSome && PySem.W.typeIn K (.ref D) == some (.type "type")) = true then PySem.W.subIn K (.ref C) (.ref D) else none) = some b
    have h1' : (PySem.W.clsIn K D).isSome = true := h1
    have e1 : ((PySem.W.clsIn K D).isSome && PySem.W.typeIn K (.ref D) == some (.type "type")) = true := by rw [h1', h2] <;> rfl
    rw [if_pos e1]
    exact h3
theorem kit_ve {K : PySem.W.Frag} {C : Addr} (h : PySem.W.subIn K (.ref C) (.type "ValueError") = some true) : PySem.W.kitOne K (.ref C) (.type "ValueError") = some true := by
  unfold PySem.W.kitOne
  rw [if_neg (by intro z; exact absurd (eq_of_beq z) (by intro y; cases y))]
  show (if PySem.W.kitMeta "ValueError" = true then PySem.W.subIn K (.ref C) (.type "ValueError") else none) = some true
  rw [if_pos (by decide +kernel)]
  exact h
theorem exm_own {K : PySem.W.Frag} {C D : Addr} {b : Bool} (h0 : PySem.W.subIn K (.ref D) (.type "BaseException") = some true) (h1 : PySem.W.isClsIn K D = true) (h2 : PySem.W.typeIn K (.ref D) = some (.type "type")) (h3 : PySem.W.subIn K (.ref C) (.ref D) = some b) : PySem.W.exmOne K (.ref C) (.ref D) = some b := by
  unfold PySem.W.exmOne
  have e0 : (PySem.W.subIn K (.ref D) (.type "BaseException") == some true) = true := by rw [h0] <;> rfl
  rw [if_pos e0]
  show (if ((PySem.W.clsIn K D).isSome && PySem.W.typeIn K (.ref D) == some (.type "type")) = true then PySem.W.subIn K (.ref C) (.ref D) else none) = some b
  have h1' : (PySem.W.clsIn K D).isSome = true := h1
  have e1 : ((PySem.W.clsIn K D).isSome && PySem.W.typeIn K (.ref D) == some (.type "type")) = true := by rw [h1', h2] <;> rfl
  rw [if_pos e1]
  exact h3
/-- what an exception's own dict has: its class's name, what it was made with -/
def wh (nm : Str) (v : V) : List (Str × V) := [(("word" : Str), .str nm), (("what" : Str), v)]
/-- a caught one at a, its dict at d: the field what is v -/
structure Kept (K : PySem.W.Frag) (H : Hp) (a C d : Addr) (v : V) : Prop where
  F : ExcFacts K C
  ob : H a = some (ExK (.ref C) (some d) a)
  di : ∃ nm : Str, H d = some (.xd (wh nm v))
theorem Kept.same {K : PySem.W.Frag} {H G : Hp} {a C d : Addr} {v : V} (k : Kept K H a C d v) (s : Same H G) : Kept K G a C d v := ⟨k.F, s _ _ k.ob, k.di.imp fun _ e => s _ _ e⟩
section
variable {X : Cx} {pins : List (Addr × Obj)} {σ : L2.St} {H : Hp} {s : Shared}
theorem Kept.inst {a C d : Addr} {v : V} (k : Kept X.K H a C d v) (I : Inv X pins σ H s) : ∃ (nm : Str) (ob od : Obj) (m : Str → Option Value), PySem.W.InstAt s.heap a ob C (some od) ∧ s.heap.Ns1 d m ∧ s.heap.get? d = some od ∧ (∀ f, RelO (List.lookup f (wh nm v)) (m f)) := by
  obtain ⟨nm, kdi⟩ := k.di
  obtain ⟨⟨ob, fs, e, z, da⟩, _⟩ := (show ObjOk X.prog X.w H s.heap a (ExK (.ref C) (some d) a) from I.hok a _ k.ob)
  obtain ⟨m, ns, r⟩ := (show ObjOk X.prog X.w H s.heap d (.xd (wh nm v)) from I.hok d _ kdi)
  obtain ⟨od, ho, _⟩ := lookIn_ns ns
  exact ⟨nm, ob, od, m, ⟨e, z.1, by unfold PySem.W.notCls; rw [da] <;> rfl, by rw [z.2]; exact ho⟩, ns, ho, r⟩
end
/-- isinstance of a kept one: a class, a tuple of classes -/
def rIsX (K : PySem.W.Frag) : List V → Hp → VK → Prop := fun xs H Q => ∃ (a C d : Addr) (v k : V) (u : Value) (b : Bool), xs = [.ref a, k] ∧ Kept K H a C d v ∧ ClsV k u ∧ PySem.W.kitOne K (.ref C) u = some b ∧ Q (.bl b) H
def rIsXT (K : PySem.W.Frag) : List V → Hp → VK → Prop := fun xs H Q => ∃ (a C d tp : Addr) (v : V) (ks : List V) (us : List Value) (b : Bool), xs = [.ref a, .ref tp] ∧ Kept K H a C d v ∧ H tp = some (.tup ks) ∧ Paired ClsV ks us ∧ PySem.W.kitAny K (.ref C) us = some b ∧ Q (.bl b) H
section
variable {X : Cx} {K : PySem.W.Frag}
theorem isX (hK : X.K = K) : CallR X (.builtin "isinstance") (rIsX K) := by
  subst hK
  intro pins s σ H xs us Q I rel ⟨a, C, d, v, k, u, b, e, kp, kc, ko, q⟩
  subst e
  obtain ⟨w1, w2, e2, r1, r2⟩ := vals2 rel
  subst e2
  obtain rfl : w1 = Value.ref a := r1
  obtain rfl := kc.eq r2
  obtain ⟨nm, ob, od, m, inst, _⟩ := kp.inst I
  have kit := PySem.W.kitx_exc (x := a) (ox := ob) (od := some od) kp.F.cl kp.F.ga kp.F.gg kp.F.sub kp.F.cls kp.F.get kp.F.tak kp.F.obj
  exact PySem.W.kia_one kit I.kIn inst ko (fun z => nomatch z) fun tk => ⟨.bl b, H, I.tok tk, rfl, q⟩
theorem isXT (hK : X.K = K) : CallR X (.builtin "isinstance") (rIsXT K) := by
  subst hK
  intro pins s σ H xs us Q I rel ⟨a, C, d, tp, v, ks, cs, b, e, kp, ht, kc, ko, q⟩
  subst e
  obtain ⟨w1, w2, e2, r1, r2⟩ := vals2 rel
  subst e2
  obtain rfl : w1 = Value.ref a := r1
  obtain rfl : w2 = Value.ref tp := r2
  obtain ⟨nm, ob, od, m, inst, _⟩ := kp.inst I
  have kit := PySem.W.kitx_exc (x := a) (ox := ob) (od := some od) kp.F.cl kp.F.ga kp.F.gg kp.F.sub kp.F.cls kp.F.get kp.F.tak kp.F.obj
  obtain ⟨_, items, rv, o, at_o, c_o, len_o, data_o⟩ := (show ObjOk X.prog X.w H s.heap tp (.tup ks) from I.hok tp _ ht)
  obtain rfl := ClsV.all kc rv
  obtain ⟨oc, odict, odata, oslots⟩ := o
  simp only at c_o data_o
  subst c_o data_o
  exact PySem.W.kia_tup kit I.kIn inst at_o ko (fun z => nomatch z) fun tk => ⟨.bl b, H, I.tok tk, rfl, q⟩
/-- caught.what -/
def tWhat (K : PySem.W.Frag) (te : TE) : TE := fun σ H Q => te σ H fun x G => ∃ (a C d : Addr) (v : V), x = .ref a ∧ Kept K G a C d v ∧ Q v G
theorem pe_what {e : Expr} {te : TE} {pos : Pos} (hK : X.K = K) (he : PE X e te) (hb : attributeBase e "what" X.env (eval e X.env) = eval e X.env := by rfl) : PE X (.Attribute e "what" pos) (tWhat K te) := by
  subst hK
  constructor
  intro pins s σ H Q I ask
  refine attr_of hb (thn (he.run pins s σ H _ I ask) fun u t1 got => ?_)
  obtain ⟨x, G, J, rel, a, C, d, v, e1, kp, q⟩ := got
  subst e1
  obtain rfl : u = Value.ref a := rel
  obtain ⟨nm, ob, od, m, inst, ns, at_d, fs⟩ := kp.inst J
  obtain ⟨od2, at_d2, look⟩ := lookIn_ns ns
  rw [at_d] at at_d2
  obtain rfl := Option.some.inj at_d2
  have l1 : List.lookup ("what" : Str) (wh nm v) = some v := rfl
  obtain ⟨w, hw, rw_⟩ := RelO.some_of (v := v) (o := m "what") (by rw [← l1]; exact fs "what")
  have found := PySem.W.findObj_own (K := X.K) (C := C) (od := od) kp.F.dic kp.F.fld rfl (by rw [look, hw])
  exact HandSPX.exc_get J.kIn inst kp.F.ga kp.F.gg kp.F.sub found (handed_of rw_) ⟨v, G, J.tok _, rw_, q⟩
end
end KR
/-! ### the name of its class, which an exception keeps: self.word = self.__class__.__name__ -/
namespace PySem.W
open PySem PySem.Calls PySem.Spec PyProof.Rows Builtin Builtin.Getset_descriptor
section
variable {pg : Program} {wd : World} {Ar : Around} {Ex : Value → Shared → Prop} {sh : Shared} {Fg : Frag} {Rr : Result → Shared → Prop} {Cl z : Addr} {oz : Obj} {oy : Option Obj}
theorem own_dga (dv tv : Value) (b : Addr) : descrGetArgs ⟨[dv, .ref b, tv], []⟩ = pure (dv, some (.ref b), given tv) := by kernel_rfl
theorem own_name_get {tv : Value} {oc : Obj} {nm : Str} {tk : Tok} (at_C : sh.heap.get? Cl = some oc) (ty : oc.cls = .type "type") (sl : (oc.slots[2]?).join = some (.str nm tk)) (want : Rr (.ok (.ret (.str nm tk))) sh) :
    codeAny (model pg wd) Ar (.call (.builtin "getset_descriptor.__get__") ⟨[.builtin "type.__name__", .ref Cl, tv], []⟩) Rr sh := by
  obtain ⟨hh, g, dr, t, os⟩ := sh
  have K0 : Looks (model pg wd) hh (typeOf (.ref Cl)) (.type "type") := fun _ _ _ _ keep q => wpAny_typeOf_ref (keep _ _ at_C) (by rw [ty]; exact q)
  have K1 : Looks (model pg wd) hh (isSubtype (.type "type") (.type "type")) true := .of_pure (by rw [isSubtype_type] <;> kernel_rfl)
  refine codeAny_call_builtin KF.slot_gs.plain KF.entry_gs <| KF.slot_gs.check _ _ _ _ _ _ _ _ ktyn_type (KF.args_gs _ _ _) ?_
  unfold Builtin.«getset_descriptor.__get__» descrGet; rw [own_dga]; refine wpAny_bind <| wpAny_pure ?_
  unfold descrGetter descrCheckInstance descrNameAndClass isInstance; simp only [ktyn_owner]
  repeat lk
  refine ⟨Code.quiet_builtin _ (by decide +kernel), codeAny_builtin ktyn_entry ?_⟩
  unfold Builtin.«type.__name__»; dsimp only
  unfold keptObject slotAt; dsimp only
  refine wpAny_bind (wpAny_bind (wpAny_loadPart_at at_C (wpAny_pure ?_)))
  rw [sl]; dsimp only
  first
    | exact wpAny_pure want
    | exact wpAny_bind (wpAny_pure want)
    | exact wpAny_bind (wpAny_pure (wpAny_pure want))
theorem own_name {expr : Bool} {Q : Value → Shared → Prop} {oc : Obj} {nm : Str} {tk : Tok} (X : Fg.In sh.heap) (rd : readsIn Fg Cl (.type "type") = true) (fc : findCls Fg (.ref Cl) (.type "type") "__name__" = some (.get (.builtin "getset_descriptor.__get__") (.builtin "type.__name__") (.ref Cl) (.type "type")))
    (lk : Fg.lookup Cl = some oc) (ty : oc.cls = .type "type") (sl : (oc.slots[2]?).join = some (.str nm tk)) (want : ∀ u, Q (.str nm tk) { sh with toks := u }) : wpAny (model pg wd) Ar (getAttr (.ref Cl) "__name__" expr) Q Ex sh := by
  refine cls_read X rd fc ?_
  show wpAny _ _ (holding [Value.builtin "type.__name__"] (call (.builtin "getset_descriptor.__get__") [.builtin "type.__name__", .ref Cl, .type "type"]) >>= ret) _ _ _
  refine wpAny_bind <| wpAny_holding <| wpAny_call <| own_name_get (sh := { sh with toks := sh.toks + 1 }) (X _ _ lk) ty sl ?_
  exact wpAny_pure (handed_on rfl (want _))
theorem own_class {expr : Bool} {Q : Value → Shared → Prop} (X : Fg.In sh.heap) (I : InstAt sh.heap z oz Cl oy) (c1 : findIn Fg (.ref Cl) "__getattribute__" = some (some (.builtin "BaseException.__getattribute__"))) (c2 : findIn Fg (.ref Cl) "__getattr__" = some none)
    (c3 : subIn Fg (.ref Cl) (.type "BaseException") = some true) (c4 : (clsIn Fg Cl).isSome = true) (c5 : findIn Fg (.ref Cl) "__class__" = some (some (.builtin "object.__class__"))) (c6 : specialIn Fg (.builtin "object.__class__") "__get__" = some (some (.builtin "getset_descriptor.__get__")))
    (c7 : takesIn Fg (.builtin "object.__class__") = some true) (c8 : mroIn Fg Cl (.type "object") = some true) (want : ∀ u, Q (.ref Cl) { sh with toks := u }) : wpAny (model pg wd) Ar (getAttr (.ref z) "__class__" expr) Q Ex sh := by
  have fo : findObj Fg Cl oy "__class__" = some (.bind (.builtin "getset_descriptor.__get__") (.builtin "object.__class__")) := by
    cases oy with
    | none => exact findObj_dataN c4 c5 c6 c7
    | some ob => exact findObj_data c4 c5 c6 c7
  obtain ⟨hh, g, dr, t, os⟩ := sh
  have K0 := I.type (M := model pg wd)
  have K1 := looks_findIn (M := model pg wd) X c1
  have K2 := looks_findIn (M := model pg wd) X c2
  have K3 := looks_find (M := model pg wd) X I fo
  have below : Looks (model pg wd) hh (isInstance (.ref z) (.type "BaseException")) true := K0.andThen (looks_subIn X c3)
  have n0 : (expr && onTheHeap (Value.builtin "BaseException.__getattribute__")) = false := by cases expr <;> rfl
  have n1 : (Value.builtin "BaseException.__getattribute__" == Value.builtin "object.__getattribute__") = false := by decide +kernel
  have n2 : (onTheHeap (Value.ref Cl) && Value.builtin "BaseException.__getattribute__" == Value.builtin "object.__getattribute__") = false := by rw [n1] <;> rfl
  unfold getAttr getAttrBy
  refine wpAny_bind <| wpAny_mkText <| wpAny_holding <| wpAny_bind <| K0.at <| wpAny_bind <| K1.at ?_
  show wpAny _ _ (ite ((onTheHeap (Value.ref Cl) && Value.builtin "BaseException.__getattribute__" == Value.builtin "object.__getattribute__") = true) _ _) _ _ _
  rw [n2, if_neg Bool.false_ne_true]; unfold getAttrByItsOwn hookBefore; refine wpAny_bind ?_
  rw [if_pos (show onTheHeap (Value.ref Cl) = true from rfl)]; refine K2.at ?_; refine wpAny_bind <| wpAny_attempt <| wpAny_holding ?_
  unfold callGetattribute; rw [n0, if_neg Bool.false_ne_true]; unfold boundAndCalled; rw [PySem.F.excAttr_ValueError.ga.bind (.ref z)]; refine wpAny_bind <| wpAny_pure ?_
  show wpAny _ _ (call (.builtin "BaseException.__getattribute__") [.ref z, .str "__class__" t]) _ _ _
  refine wpAny_call <| codeAny_call_builtin PySem.F.excAttr_ValueError.ga.plain PySem.F.entry_bexc_ga ?_
  refine @check_slot (model pg wd) _ _ ⟨hh, g, dr, t + 1, os⟩ "BaseException.__getattribute__" "BaseException" "__getattribute__" (.ref z) [.str "__class__" t] [] _ (by decide +kernel) (by decide +kernel) below (PySem.F.args_bexc_ga (.ref z) (.str "__class__" t)) ?_
  unfold Builtin.«object.__getattribute__»; refine wpAny_bind <| wpAny_of_eq (a := ((Value.ref z : Value), [Value.str "__class__" t])) (by first | rfl | (simp only [slotArgs]; rfl)) ?_
  refine wpAny_bind <| wpAny_pure <| wpAny_bind <| K0.at <| wpAny_bind <| K3.at ?_
  show wpAny _ _ (holding [Value.builtin "object.__class__"] (call (.builtin "getset_descriptor.__get__") [.builtin "object.__class__", .ref z, .ref Cl]) >>= ret) _ _ _
  refine wpAny_bind <| wpAny_holding <| wpAny_call <| class_get (s := ⟨hh, g, dr, t + 1, os⟩) (ox := oz) (od := oy) X I c8 ?_
  refine wpAny_pure ?_
  show wpAny _ _ (handedOut (.ref Cl)) _ _ _
  rw [handedOut_of (v := .ref Cl) rfl]
  first
    | exact wpAny_pure (want _)
    | exact wpAny_pure (wpAny_pure (want _))
end
end PySem.W
namespace KR
open PySem PySem.Spec PyProof.Rows L2
/-- a class whose own name, kept since it was made, is nm -/
structure NmC (K : PySem.W.Frag) (C : Addr) (nm : Str) : Prop where
  ro : ∃ (oc : Obj) (tk : Tok), K.lookup C = some oc ∧ oc.cls = .type "type" ∧ (oc.slots[2]?).join = some (.str nm tk)
  rd : PySem.W.readsIn K C (.type "type") = true
  fw : PySem.W.findIn K (.ref C) "word" = some none
  fc : PySem.W.findCls K (.ref C) (.type "type") "__name__" = some (.get (.builtin "getset_descriptor.__get__") (.builtin "type.__name__") (.ref C) (.type "type"))
/-- self.__class__.__name__ of one that is being made -/
def tCnm (K : PySem.W.Frag) (to : TE) : TE := fun σ H Q => to σ H fun x H1 => ∃ (a C d : Addr) (fs : List (Str × V)) (nm : Str), x = .ref a ∧ ExcFacts K C ∧ NmC K C nm ∧ H1 a = some (exo a C (some d)) ∧ H1 d = some (exd d fs) ∧ Q (.str nm) H1
theorem pe_cnm {X : Cx} {o : Expr} {to : TE} {p1 p2 : Pos} (ho : PE X o to) (h1 : attributeBase o "__class__" X.env (eval o X.env) = eval o X.env := by rfl)
    (h2 : attributeBase (.Attribute o "__class__" p1) "__name__" X.env (eval (.Attribute o "__class__" p1) X.env) = eval (.Attribute o "__class__" p1) X.env := by rfl) : PE X (.Attribute (.Attribute o "__class__" p1) "__name__" p2) (tCnm X.K to) := by
  refine ⟨fun pins s σ H Q I ask => ?_⟩
  refine attr_of h2 (attr_of h1 (thn (ho.run pins s σ H _ I ask) fun u s1 got => ?_))
  obtain ⟨x, H1, J, rel, a, C, d, fs, nm, e1, F, N, ha, hd, q⟩ := got
  subst e1
  obtain rfl : u = Value.ref a := rel
  obtain ⟨t1, at_a⟩ := exo_at J.hok ha
  obtain ⟨mA, ns, _⟩ := exd_at J.hok hd
  obtain ⟨od, at_d, _⟩ := lookIn_ns ns
  obtain ⟨oc, tk, lk, ty, sl⟩ := N.ro
  refine PySem.W.own_class J.kIn (oy := some od) ⟨at_a, rfl, rfl, at_d⟩ F.ga F.gg F.sub F.cl F.cls F.get F.tak F.obj fun u1 => ?_
  exact PySem.W.own_name (J.tok u1).kIn N.rd N.fc lk ty sl fun u2 => ⟨.str nm, H1, J.tok u2, ⟨tk, rfl⟩, q⟩
/-- the dict of one that is being made, told twice -/
theorem upd_twice {H : Hp} {a d : Addr} {o1 o2 o3 : HO} (ne : d ≠ a) : upd (upd (upd H d o1) a o2) d o3 = upd (upd H d o3) a o2 := by
  funext b
  by_cases e1 : b = a
  · subst e1
    rw [upd_ne (Ne.symm ne), upd_same, upd_same]
  · by_cases e2 : b = d
    · subst e2
      rw [upd_same, upd_ne e1, upd_same]
    · rw [upd_ne e2, upd_ne e1, upd_ne e2, upd_ne e1, upd_ne e2]
/-- self.what = what; self.word = self.__class__.__name__ -/
theorem init_reads {K : PySem.W.Frag} {C a : Addr} {nm : Str} {v : V} {H : Hp} {D : Ends} (O : OexC K C) (F : ExcFacts K C) (N : NmC K C nm) (ha : H a = some (exo a C none)) (q : ∀ dx, H dx = none → dx ≠ a → D.nx [some (.ref a), some v] (upd (upd H dx (exd dx (wh nm v))) a (exo a C (some dx)))) :
    tSeq (tOst K "what" (tVar 0) (tVar 1)) (tOst K "word" (tVar 0) (tCnm K (tVar 0))) D [some (.ref a), some v] H := by
  refine ⟨_, rfl, _, rfl, a, C, rfl, O, F.fld, .inl ⟨ha, fun dx h1 h2 => ?_⟩⟩
  have e1 : (upd (upd H dx (exd dx [(("what" : Str), v)])) a (exo a C (some dx))) dx = some (exd dx [(("what" : Str), v)]) := by rw [upd_ne h2, upd_same]
  refine ⟨_, rfl, a, C, dx, _, nm, rfl, F, N, upd_same, e1, _, rfl, a, C, rfl, O, N.fw, .inr ⟨dx, _, upd_same, e1, by show 1 ≤ 900; decide, ?_⟩⟩
  rw [upd_twice h2]
  exact q dx h1 h2
end KR
/-! ### an instance that is made, where its own __init__ may raise -/
namespace KR
open PySem PySem.Spec PyProof.Rows L2
theorem passX0 {X : Cx} : Passes (L2.CX X.prog X.w) X E0 := fun pins σ H s1 e s' I z => by
  obtain ⟨a, B, H', cls, d, _, _, _, _, _, _, _, q⟩ := z
  exact q.elim
section
variable {X : Cx} {CX : CXT} {n : Nat} {fI cl : Addr} {fd : FuncData} {names : List Str} {sp : Sp} {E : L2.St → XK} {x : Str} {p pos : Pos} {e : Expr} {es : List Expr} {t : TA}
/-- what is left to be shown of it: __init__ with the new instance ahead -/
def tMakeS (cl : Addr) (sp : Sp) (E : L2.St → XK) (t : TA) : TE := fun σ H Q => t σ H fun vs G => ∀ a da, G a = none → G da = none → da ≠ a → sp (.ref a :: vs) (upd (upd G da (.own a)) a (.ins cl da [])) (fun u J => u = .non ∧ Q (.ref a) J) (E σ)
theorem pe_makeS (mk : Mk X.K cl fI) (F : FnOk X.prog X.w X.K X.mg X.base CX n fI fd names sp) (room : Room (n + 1) X.A) (glob : Gl X x) (here : X.mg x = some (.ref cl)) (bind : Binds X.K fd names []) (pass : ∀ σ, PassesAt CX X σ (E σ)) (args : PA X (e :: es) t)
    (nd : (x == ("__debug__" : Str)) = false := by decide) (st : starEach (e :: es) X.env = (false, eval e X.env) :: starEach es X.env := by rfl) (bk : (backTo pos (starEach es X.env)).any (·.1) = false := by rfl) : PE X (.Call (.Name x p) (e :: es) [] pos) (tMakeS cl sp E t) := by
  constructor
  intro pins s σ H Q I ask
  refine wpAny_Call_Name_kw (ld_glob I glob here (PySem.W.callWith_K (h₀ := X.base) I.ok.mod.kin mk.kp (thn (args.run pos pins s σ H _ I ask) ?_) st bk) nd)
  rintro us s1 ⟨vs, G, J, rel, q⟩
  refine ⟨J.kIn, ?_⟩
  have ask2 := q (s1.heap.objs.size + 1) s1.heap.objs.size (J.hok.fresh (Nat.le_succ _)) (J.hok.fresh (Nat.le_refl _)) (Nat.ne_of_lt (Nat.lt_succ_self _))
  have made := Inv.made (C := cl) J
  have rel2 : Vals (V.ref (s1.heap.objs.size + 1) :: vs) (Value.ref (s1.heap.objs.size + 1) :: us) := .cons rfl rel
  have many : (Value.ref (s1.heap.objs.size + 1) :: us).length = names.length := by rw [← F.len _ _ _ _ ask2]; exact rel2.length.symm
  have bound := bind _ (Value.ref (s1.heap.objs.size + 1) :: us) made.kIn (by rw [List.append_nil]; exact many)
  rw [List.append_nil] at bound
  refine wpAny_call (make_map (f := fI) J.kIn mk.makes mk.init (beq_iff_eq.mp mk.fn) (codeAny_mono (F.run _ X.stack _ _ ⟨Value.ref (s1.heap.objs.size + 1) :: us, []⟩ _ _ _ (E σ) (room.make cl us []) (made.env0.make cl us []) bound rel2 ask2) ?_))
  intro r s2 post
  match r, post with
  | .error er, post => exact pass σ pins _ _ er s2 made post
  | .ok (.ret u), post =>
    obtain ⟨v, H2, J2, rv, ev, q3⟩ := made.after post
    cases ev
    exact ⟨rv, V.ref (s1.heap.objs.size + 1), H2, J2, rfl, q3⟩
  | .ok .next, post => exact post.elim
  | .ok .brk, post => exact post.elim
  | .ok .cont, post => exact post.elim
end
/-- behind a raise all is as it was, beside it the new one's own dict -/
theorem raised_keeps {G : Hp} {a d : Addr} {o1 o2 o3 o4 : HO} (na : G a = none) (ndd : G d = none) : Same G (upd (del (upd (upd (upd G a o1) d o2) a o3) a) d o4) := fun b o e => by
  have ba := ne_of_none e na
  have bd := ne_of_none e ndd
  rw [upd_ne bd, del_ne ba, upd_ne ba, upd_ne bd, upd_ne ba]
  exact e
/-- how a refusal is made: its field what is what it is made with, its field word its class's name -/
def sp_initX (C : Addr) (nm : Str) : Sp := fun vs H Q _ => ∃ (a : Addr) (v : V), vs = [.ref a, v] ∧ H a = some (exo a C none) ∧ ∀ dx, H dx = none → dx ≠ a → Q .non (upd (upd H dx (exd dx (wh nm v))) a (exo a C (some dx)))
end KR
/-! ### objects that change: frames, dicts by their keys, rules -/
namespace KR
open PySem PySem.Spec PyProof.Rows L2
/-- all but the region R is as it was; what is a tuple or a table stays one -/
structure Off (K : PySem.W.Frag) (R : Addr → Prop) (H H' : Hp) : Prop where
  keep : ∀ b o, ¬ R b → H b = some o → (∀ q, o ≠ .tbl q) → H' b = some o
  tab : ∀ b, GxR.TabG H b → GxR.TabG H' b
  tk : TK K H H'
section
variable {K : PySem.W.Frag} {R R2 : Addr → Prop} {H H' H1 H2 : Hp} {p : Addr} {o o2 : HO}
/-- a thing that may change: no tuple, no table, not locked -/
structure Chg (o : HO) : Prop where
  t : ∀ xs, o ≠ .tup xs
  f : ∀ b y, o ≠ .frz b y
  b : ∀ q, o ≠ .tbl q
theorem Chg.lst {xs : List V} : Chg (.lst xs) := ⟨fun _ z => (by cases z), fun _ _ z => (by cases z), fun _ z => (by cases z)⟩
theorem Chg.dK {xs : List (Key × V)} : Chg (.dK xs) := ⟨fun _ z => (by cases z), fun _ _ z => (by cases z), fun _ z => (by cases z)⟩
theorem Chg.ins {C dx : Addr} {xs : List (Str × V)} : Chg (.ins C dx xs) := ⟨fun _ z => (by cases z), fun _ _ z => (by cases z), fun _ z => (by cases z)⟩
theorem Off.refl : Off K R H H := ⟨fun _ _ _ h _ => h, fun _ h => h, .refl⟩
theorem Off.sm (s : Sm H H') : Off K R H H' := ⟨fun b o _ h n => s.keep b o h n, s.tab, .sm s⟩
theorem Off.same (s : Same H H') : Off K R H H' := .sm (.of s)
theorem Off.mono (h : Off K R H H') (k : ∀ a, R a → R2 a) : Off K R2 H H' := ⟨fun b o n => h.keep b o fun z => n (k b z), h.tab, h.tk⟩
/-- nothing stands there, a table at most -/
def Nw (H : Hp) (a : Addr) : Prop := ∀ o, H a = some o → ∃ q, o = .tbl q
theorem Nw.of {a : Addr} (h : H a = none) : Nw H a := fun o e => by rw [h] at e; cases e
theorem Nw.no {a : Addr} (h : Nw H a) (e : H a = some o) (c : Chg o) : False := (h o e).elim fun q z => c.b q z
theorem Nw.ne {a b : Addr} (h : Nw H a) (e : H b = some o) (c : Chg o) : a ≠ b := fun z => h.no (z ▸ e) c
theorem Nw.back {a : Addr} (h : Off K R H H') (n : ¬ R a) (k : Nw H' a) : Nw H a := fun o e => Classical.byContradiction fun c => c (k o (h.keep a o n e fun q z => c ⟨q, z⟩))
theorem Nw.backS {a : Addr} (s : Same H H') (k : Nw H' a) : Nw H a := fun o e => k o (s _ _ e)
theorem Off.trans (h : Off K R H H1) (k : Off K R2 H1 H2) (e : ∀ a, R2 a → R a ∨ Nw H a) : Off K R H H2 :=
  ⟨fun b o n a t => k.keep b o (fun z => (e b z).elim n fun y => (y o a).elim t) (h.keep b o n a t) t, fun b a => k.tab b (h.tab b a), h.tk.trans k.tk⟩
theorem Off.seq (h : Off K R H H1) (k : Off K R H1 H2) : Off K R H H2 := h.trans k fun _ => .inl
theorem Off.put (h : H p = some o) (c : Chg o) (r : R p) : Off K R H (upd H p o2) :=
  ⟨fun b u n e _ => by rw [upd_ne (fun z => n (by rw [z]; exact r))]; exact e, fun b ⟨q, e, t⟩ => ⟨q, by rw [upd_ne (fun z => by rw [z, h] at e; exact c.b q (Option.some.inj e))]; exact e, t⟩, .upd h c.t c.f⟩
theorem Off.new (h : H p = none) : Off K R H (upd H p o2) := .same (same_new h)
theorem Off.fresh (h : Off K R H H1) (n : H p = none) : Off K R H (upd H1 p o2) :=
  ⟨fun b u r e t => by rw [upd_ne (ne_of_none e n)]; exact h.keep b u r e t, fun b e => by
    have ne : b ≠ p := e.elim fun q z => ne_of_none z.1 n
    obtain ⟨q, e2, t⟩ := h.tab b e
    exact ⟨q, by rw [upd_ne ne]; exact e2, t⟩, fun b xs e => by
    have k := h.tk b xs e
    rcases e with (e | ⟨ob, e⟩) | e
    · rcases k with (k | ⟨o3, k⟩) | k
      · exact .inl (.inl (by rw [upd_ne (ne_of_none e n)]; exact k))
      · exact .inl (.inr ⟨o3, by rw [upd_ne (ne_of_none e n)]; exact k⟩)
      · exact .inr k
    · rcases k with (k | ⟨o3, k⟩) | k
      · exact .inl (.inl (by rw [upd_ne (ne_of_none e n)]; exact k))
      · exact .inl (.inr ⟨o3, by rw [upd_ne (ne_of_none e n)]; exact k⟩)
      · exact .inr k
    · exact .inr e⟩
theorem Off.write (h : Off K R H H1) (r : R p) (e : H p = some o) (c : Chg o) : Off K R H (upd H1 p o2) :=
  ⟨fun b u n e t => by rw [upd_ne (fun z => n (by rw [z]; exact r))]; exact h.keep b u n e t, fun b k => by
    have ne : b ≠ p := k.elim fun q z y => by rw [y, e] at z; exact c.b q (Option.some.inj z.1)
    obtain ⟨q, e2, t⟩ := h.tab b k
    exact ⟨q, by rw [upd_ne ne]; exact e2, t⟩, fun b xs k => by
    have k2 := h.tk b xs k
    rcases k with (k | ⟨ob, k⟩) | k
    · have ne : b ≠ p := fun y => by rw [y, e] at k; exact c.t _ (Option.some.inj k)
      rcases k2 with (k2 | ⟨o3, k2⟩) | k2
      · exact .inl (.inl (by rw [upd_ne ne]; exact k2))
      · exact .inl (.inr ⟨o3, by rw [upd_ne ne]; exact k2⟩)
      · exact .inr k2
    · have ne : b ≠ p := fun y => by rw [y, e] at k; exact c.f _ _ (Option.some.inj k)
      rcases k2 with (k2 | ⟨o3, k2⟩) | k2
      · exact .inl (.inl (by rw [upd_ne ne]; exact k2))
      · exact .inl (.inr ⟨o3, by rw [upd_ne ne]; exact k2⟩)
      · exact .inr k2
    · exact .inr k⟩
theorem Off.fr {xs : List V} (h : H p = some (.lst xs)) (f : Fr p H H') : Off K (· = p) H H' :=
  ⟨fun b u n e _ => f b u n e, fun b ⟨q, e, t⟩ => ⟨q, f b _ (fun z => by rw [z, h] at e; cases e) e, t⟩, .fs (fun xs z => by rw [h] at z; cases z) (fun b y z => by rw [h] at z; cases z) (.of f)⟩
theorem Off.box {n : Nat} (h : BoxAt H p n) (f : Fr p H H') : Off K (· = p) H H' := by
  obtain ⟨xs, e⟩ := box_lst h
  exact .fr e f
theorem Off.ins (h : Off K R H H') (n : ¬ R p) {C dx : Addr} {fs : List (Str × V)} (e : H p = some (.ins C dx fs)) : H' p = some (.ins C dx fs) := h.keep p _ n e nofun
theorem Off.dK (h : Off K R H H') (n : ¬ R p) {kvs : List (Key × V)} (e : H p = some (.dK kvs)) : H' p = some (.dK kvs) := h.keep p _ n e nofun
theorem Off.lst (h : Off K R H H') (n : ¬ R p) {xs : List V} (e : H p = some (.lst xs)) : H' p = some (.lst xs) := h.keep p _ n e nofun
theorem Off.rd (h : Off K R H H') (n : ¬ R p) {u : HO} (e : Rd H p u) (t : ∀ q, u ≠ .tbl q) : Rd H' p u := e.imp (fun e => h.keep p _ n e t) fun ⟨o, e⟩ => ⟨o, h.keep p _ n e nofun⟩
theorem Off.tbs {Ps : List Addr} (h : Off K R H H') (t : Tbs Ps H) : Tbs Ps H' := fun P hP => h.tab P (t P hP)
theorem Off.boxAt {n : Nat} (h : Off K R H H') (nr : ¬ R p) (B : BoxAt H p n) : BoxAt H' p n := by
  obtain ⟨a, b, c, h1, h2⟩ := B
  exact ⟨a, b, c, h.lst nr h1, h2⟩
theorem Off.seqL {a : Addr} {xs : List V} (h : Off K R H H') (n : ¬ R a) (e : SqL K H a xs) : SqL K H' a xs := by
  rcases e with (e | ⟨o, e⟩) | e
  · exact .inl (.inl (h.keep _ _ n e nofun))
  · exact .inl (.inr ⟨o, h.keep _ _ n e nofun⟩)
  · exact .inr e
theorem Same.rd {a : Addr} {u : HO} (s : Same H H') (e : Rd H a u) : Rd H' a u := e.imp (fun e => s _ _ e) fun ⟨o, e⟩ => ⟨o, s _ _ e⟩
/-- behind a locked walk that left all as it was -/
theorem lock_same {d : Addr} {od : Obj} {u : HO} (h : H d = some u) (s : Same (upd H d (.frz od u)) H') : Same H (upd H' d u) := fun b o e => by
  by_cases c : b = d
  · subst c
    rw [upd_same]
    exact h.symm.trans e
  · rw [upd_ne c]
    exact s b o (by rw [upd_ne c]; exact e)
theorem tk_lock {d : Addr} {od : Obj} {kvs : List (Key × V)} (h : H d = some (.dK kvs)) : TK K H (upd H d (.frz od (.dK kvs))) := .upd h (fun _ z => (by cases z)) (fun _ _ z => (by cases z))
theorem tk_unlock {d : Addr} {od : Obj} {kvs : List (Key × V)} (h : H d = some (.frz od (.dK kvs))) : TK K H (upd H d (.dK kvs)) := fun b xs e => by
  rcases e with (e | ⟨q, e⟩) | e
  · exact .inl (.inl (by rw [upd_ne (fun z => by rw [z, h] at e; cases e)]; exact e))
  · exact .inl (.inr ⟨q, by rw [upd_ne (fun z => by rw [z, h] at e; cases e)]; exact e⟩)
  · exact .inr e
end
/-! dicts by their keys -/
def set1 {α β : Type} [DecidableEq α] (f : α → β) (x : α) (v : β) : α → β := fun y => if y = x then v else f y
theorem set1_same {α β : Type} [DecidableEq α] {f : α → β} {x : α} {v : β} : set1 f x v x = v := if_pos rfl
theorem set1_ne {α β : Type} [DecidableEq α] {f : α → β} {x y : α} {v : β} (h : y ≠ x) : set1 f x v y = f y := if_neg h
def addK {α : Type} [DecidableEq α] (l : List α) (x : α) : List α := if x ∈ l then l else l ++ [x]
theorem mem_addK {α : Type} [DecidableEq α] {l : List α} {x y : α} : y ∈ addK l x ↔ y ∈ l ∨ y = x := by
  unfold addK
  split
  · rename_i c
    exact ⟨.inl, fun h => h.elim id fun e => e ▸ c⟩
  · rw [List.mem_append, List.mem_singleton]
theorem addK_nodup {α : Type} [DecidableEq α] {l : List α} {x : α} (h : l.Nodup) : (addK l x).Nodup := by
  unfold addK
  split
  · exact h
  · rename_i c
    rw [List.nodup_append]
    exact ⟨h, List.nodup_cons.mpr ⟨List.not_mem_nil, List.nodup_nil⟩, fun a ha b hb e => c (by rw [List.mem_singleton.mp hb] at e; exact e ▸ ha)⟩
theorem addK_len {α : Type} [DecidableEq α] {l : List α} {x : α} : (addK l x).length ≤ l.length + 1 := by
  unfold addK
  split
  · omega
  · rw [List.length_append, List.length_singleton]
    exact Nat.le_refl _
def byK {α : Type} (c : α → Key) (l : List α) (f : α → V) : List (Key × V) := l.map fun x => (c x, f x)
section
variable {α : Type} [DecidableEq α] {c : α → Key} {f g : α → V} {x : α} {v : V}
theorem byK_len {l : List α} : (byK c l f).length = l.length := List.length_map _
theorem byK_keys {l : List α} : (byK c l f).map (·.1) = l.map c := by
  unfold byK
  rw [List.map_map] <;> rfl
theorem byK_emp {l : List α} : (byK c l f).isEmpty = l.isEmpty := by cases l <;> rfl
theorem byI_keys {l : List Int} {f : Int → V} : (byK (Sum.inl : Int → Key) l f).map (fun kv => kV kv.1) = l.map V.int := by
  unfold byK
  rw [List.map_map]
  rfl
theorem byN_keys {l : List Str} {f : Str → V} : (byK (Sum.inr : Str → Key) l f).map (fun kv => kV kv.1) = l.map V.str := by
  unfold byK
  rw [List.map_map]
  rfl
theorem addK_in {l : List α} {x : α} (h : x ∈ l) : addK l x = l := if_pos h
theorem byK_get {l : List α} {i : Nat} {kv : Key × V} (h : (byK c l f)[i]? = some kv) : ∃ y, l[i]? = some y ∧ kv = (c y, f y) := by
  unfold byK at h
  rw [List.getElem?_map] at h
  cases e : l[i]? with
  | none => rw [e] at h; cases h
  | some y => rw [e] at h; exact ⟨y, rfl, (Option.some.inj h).symm⟩
theorem byK_congr {l : List α} (h : ∀ y ∈ l, f y = g y) : byK c l f = byK c l g := List.map_congr_left fun y hy => by rw [h y hy]
theorem byK_val (inj : ∀ a b, c a = c b → a = b) : ∀ {l : List α}, x ∈ l → valV (byK c l f) (c x) = some (f x)
  | y :: l, h => by
    by_cases e : y = x
    · subst e
      exact valV_pos (p := (c y, f y)) rfl
    · refine (valV_neg (p := (c y, f y)) (r := byK c l f) (fun z => e (inj _ _ z))).trans (byK_val inj ?_)
      rcases List.mem_cons.mp h with z | z
      · exact absurd z.symm e
      · exact z
theorem byK_none (inj : ∀ a b, c a = c b → a = b) : ∀ {l : List α}, x ∉ l → valV (byK c l f) (c x) = none
  | [], _ => rfl
  | y :: l, h => (valV_neg (p := (c y, f y)) (r := byK c l f) (fun z => h (by rw [inj _ _ z]; exact List.mem_cons_self))).trans (byK_none inj fun z => h (List.mem_cons_of_mem _ z))
theorem byK_put (inj : ∀ a b, c a = c b → a = b) {l : List α} : putK (byK c l f) (c x) v = byK c (addK l x) (set1 f x v) := by
  unfold putK addK
  rw [valV_any]
  by_cases h : x ∈ l
  · rw [byK_val inj h, if_pos (show (some (f x)).isSome = true from rfl), if_pos h]
    unfold byK
    rw [List.map_map]
    refine List.map_congr_left fun y _ => ?_
    show (if c y = c x then (c y, v) else (c y, f y)) = (c y, set1 f x v y)
    unfold set1
    by_cases e : y = x
    · rw [if_pos (by rw [e]), if_pos e]
    · rw [if_neg (fun z => e (inj _ _ z)), if_neg e]
  · rw [byK_none inj h, if_neg (show ¬ (none : Option V).isSome = true from nofun), if_neg h]
    unfold byK
    rw [List.map_append]
    congr 1
    · refine List.map_congr_left fun y hy => ?_
      show (c y, f y) = (c y, set1 f x v y)
      rw [set1_ne (fun e => h (by rw [← e]; exact hy))]
    · show [(c x, v)] = [(c x, set1 f x v x)]
      rw [set1_same]
end
abbrev kN (x : Str) : Key := Sum.inr x
abbrev kI (k : Int) : Key := Sum.inl k
theorem kN_inj : ∀ a b : Str, kN a = kN b → a = b := fun _ _ h => Sum.inr.inj h
theorem kI_inj : ∀ a b : Int, kI a = kI b → a = b := fun _ _ h => Sum.inl.inj h
theorem dget_n {H : Hp} {a : Addr} {l : List Str} {f : Str → V} {x : Str} (h : Rd H a (.dK (byK kN l f))) (hx : x ∈ l) : DGet H a (.str x) (some (f x)) := .inl ⟨_, kN x, h, rfl, (byK_val kN_inj hx).symm⟩
theorem dget_n0 {H : Hp} {a : Addr} {l : List Str} {f : Str → V} {x : Str} (h : Rd H a (.dK (byK kN l f))) (hx : x ∉ l) : DGet H a (.str x) none := .inl ⟨_, kN x, h, rfl, (byK_none kN_inj hx).symm⟩
theorem dget_i {H : Hp} {a : Addr} {l : List Int} {f : Int → V} {x : Int} (h : Rd H a (.dK (byK kI l f))) (hx : x ∈ l) : DGet H a (.int x) (some (f x)) := .inl ⟨_, kI x, h, rfl, (byK_val kI_inj hx).symm⟩
theorem dget_i0 {H : Hp} {a : Addr} {l : List Int} {f : Int → V} {x : Int} (h : Rd H a (.dK (byK kI l f))) (hx : x ∉ l) : DGet H a (.int x) none := .inl ⟨_, kI x, h, rfl, (byK_none kI_inj hx).symm⟩
theorem dput_n {H : Hp} {a : Addr} {l : List Str} {f : Str → V} {x : Str} {v : V} (h : H a = some (.dK (byK kN l f))) (z : l.length < 100000) : DPut H a (.str x) v (upd H a (.dK (byK kN (addK l x) (set1 f x v)))) := .inl ⟨_, kN x, h, rfl, by rw [byK_len]; exact small' z, by rw [byK_put kN_inj]⟩
theorem dput_i {H : Hp} {a : Addr} {l : List Int} {f : Int → V} {x : Int} {v : V} (h : H a = some (.dK (byK kI l f))) (z : l.length < 100000) : DPut H a (.int x) v (upd H a (.dK (byK kI (addK l x) (set1 f x v)))) := .inl ⟨_, kI x, h, rfl, by rw [byK_len]; exact small' z, by rw [byK_put kI_inj]⟩
/-! walks over a locked dict -/
theorem for_keys {d : Addr} {od : Obj} {kvs : List (Key × V)} {g : TG} {tb : TS} {D : Ends} {σ : L2.St} {H : Hp} (Pv : Nat → L2.St → Hp → Prop) (h0 : Pv 0 σ H) (hl : ∀ i σ H, i ≤ kvs.length → Pv i σ H → H d = some (.frz od (.dK kvs)))
    (hs : ∀ i k v σ H, kvs[i]? = some (k, v) → Pv i σ H → g (kV k) σ H fun σ2 H2 => tb { D with nx := Pv (i + 1), ct := Pv (i + 1), bk := D.nx } σ2 H2) (hd : ∀ σ H, Pv kvs.length σ H → D.nx σ H) :
    ∃ W : Nat → Nat → L2.St → Hp → Prop, (∃ m, W 0 m σ H) ∧ ∀ i m σ H, W i m σ H →
      ((Itk d od kvs).stop i H ∧ D.nx σ H) ∨ ((Itk d od kvs).go i H ∧ ∃ N : L2.St → Hp → Prop, (∀ σ' H', N σ' H' → ∃ m', m' < m ∧ W (i + 1) m' σ' H') ∧ ∀ x H', (Itk d od kvs).yld i H x H' → g x σ H' fun σ2 H2 => tb { D with nx := N, ct := N, bk := D.nx } σ2 H2) := by
  refine ⟨fun i m σ H => m = kvs.length - i ∧ i ≤ kvs.length ∧ Pv i σ H, ⟨kvs.length, by simp, Nat.zero_le _, h0⟩, ?_⟩
  rintro i m σ H ⟨rfl, hi, p⟩
  have q := hl i σ H hi p
  by_cases hlt : i < kvs.length
  · refine .inr ⟨⟨q, hlt⟩, Pv (i + 1), fun σ' H' p' => ⟨kvs.length - (i + 1), by omega, rfl, hlt, p'⟩, fun x H' y => ?_⟩
    obtain ⟨e, k, v, y, ex⟩ := y
    subst e ex
    exact hs i k v σ _ y p
  · have e : i = kvs.length := by omega
    subst e
    exact .inl ⟨⟨q, Nat.le_refl _⟩, hd σ H p⟩
theorem for_vals {d : Addr} {od : Obj} {kvs : List (Key × V)} {g : TG} {tb : TS} {D : Ends} {σ : L2.St} {H : Hp} (Pv : Nat → L2.St → Hp → Prop) (h0 : Pv 0 σ H) (hl : ∀ i σ H, i ≤ kvs.length → Pv i σ H → H d = some (.frz od (.dK kvs)))
    (hs : ∀ i k v σ H, kvs[i]? = some (k, v) → Pv i σ H → g v σ H fun σ2 H2 => tb { D with nx := Pv (i + 1), ct := Pv (i + 1), bk := D.nx } σ2 H2) (hd : ∀ σ H, Pv kvs.length σ H → D.nx σ H) :
    ∃ W : Nat → Nat → L2.St → Hp → Prop, (∃ m, W 0 m σ H) ∧ ∀ i m σ H, W i m σ H →
      ((Itd d od kvs).stop i H ∧ D.nx σ H) ∨ ((Itd d od kvs).go i H ∧ ∃ N : L2.St → Hp → Prop, (∀ σ' H', N σ' H' → ∃ m', m' < m ∧ W (i + 1) m' σ' H') ∧ ∀ x H', (Itd d od kvs).yld i H x H' → g x σ H' fun σ2 H2 => tb { D with nx := N, ct := N, bk := D.nx } σ2 H2) := by
  refine ⟨fun i m σ H => m = kvs.length - i ∧ i ≤ kvs.length ∧ Pv i σ H, ⟨kvs.length, by simp, Nat.zero_le _, h0⟩, ?_⟩
  rintro i m σ H ⟨rfl, hi, p⟩
  have q := hl i σ H hi p
  by_cases hlt : i < kvs.length
  · refine .inr ⟨⟨q, hlt⟩, Pv (i + 1), fun σ' H' p' => ⟨kvs.length - (i + 1), by omega, rfl, hlt, p'⟩, fun x H' y => ?_⟩
    obtain ⟨e, k, y⟩ := y
    subst e
    exact hs i k x σ _ y p
  · have e : i = kvs.length := by omega
    subst e
    exact .inl ⟨⟨q, Nat.le_refl _⟩, hd σ H p⟩
theorem lc_keys {d : Addr} {od : Obj} {kvs : List (Key × V)} {g : TG} {tt : TT} {te : TE} {vs : List Nat} {σ : L2.St} {H1 : Hp} {D : Addr} {Qd : Hp → Prop} (Pv : Nat → Hp → Prop) (h0 : Pv 0 (upd H1 D (.lst []))) (hl : ∀ i H, i ≤ kvs.length → Pv i H → H d = some (.frz od (.dK kvs)))
    (hs : ∀ i k v H, kvs[i]? = some (k, v) → Pv i H → g (kV k) (wipe σ vs) H fun σ2 H2 => wipe σ2 vs = wipe σ vs ∧ tt σ2 H2 fun b H3 =>
      if b = true then te σ2 H3 fun y H4 => ∃ acc, H4 D = some (.lst acc) ∧ acc.length < sizeLine ∧ Pv (i + 1) (upd H4 D (.lst (acc ++ [y]))) else Pv (i + 1) H3) (hd : ∀ H, Pv kvs.length H → Qd H) :
    ∃ W : Nat → Nat → Hp → Prop, (∃ m, W 0 m (upd H1 D (.lst []))) ∧ ∀ i m H, W i m H →
      ((Itk d od kvs).stop i H ∧ Qd H) ∨ ((Itk d od kvs).go i H ∧ ∃ Nx : Hp → Prop, (∀ H', Nx H' → ∃ m', m' < m ∧ W (i + 1) m' H') ∧ ∀ x H', (Itk d od kvs).yld i H x H' → g x (wipe σ vs) H' fun σ2 H2 => wipe σ2 vs = wipe σ vs ∧ tt σ2 H2 fun b H3 =>
        if b = true then te σ2 H3 fun y H4 => ∃ acc, H4 D = some (.lst acc) ∧ acc.length < sizeLine ∧ Nx (upd H4 D (.lst (acc ++ [y]))) else Nx H3) := by
  refine ⟨fun i m H => m = kvs.length - i ∧ i ≤ kvs.length ∧ Pv i H, ⟨kvs.length, by simp, Nat.zero_le _, h0⟩, ?_⟩
  rintro i m H ⟨rfl, hi, p⟩
  have q := hl i H hi p
  by_cases hlt : i < kvs.length
  · refine .inr ⟨⟨q, hlt⟩, Pv (i + 1), fun H' p' => ⟨kvs.length - (i + 1), by omega, rfl, hlt, p'⟩, fun x H' y => ?_⟩
    obtain ⟨e, k, v, y, ex⟩ := y
    subst e ex
    exact hs i k v _ y p
  · have e : i = kvs.length := by omega
    subst e
    exact .inl ⟨⟨q, Nat.le_refl _⟩, hd H p⟩
/-! rules -/
section
variable {X : Cx}
theorem pe_fldK {K : PySem.W.Frag} {e : Expr} {f : Str} {pos : Pos} {ta : TE} (h : X.K = K) (he : PE X e ta) (hb : attributeBase e f X.env (eval e X.env) = eval e X.env) : PE X (.Attribute e f pos) (tFld K ta f) := h ▸ pe_fld he hb
/-- a dict beside an empty one -/
def rEqDE : R2 := fun x y H Q => ∃ a b ks, x = .ref a ∧ y = .ref b ∧ H a = some (.dK ks) ∧ H b = some (.dK []) ∧ Q (.bl ks.isEmpty) H
def rNeDE : R2 := fun x y H Q => ∃ a b ks, x = .ref a ∧ y = .ref b ∧ H a = some (.dK ks) ∧ H b = some (.dK []) ∧ Q (.bl (!ks.isEmpty)) H
theorem op_eqDE (hu : X.A.units + 1 < cLine) : OpR X (compareOp .Eq) rEqDE := by
  intro pins s σ H x y v u Q I rx ry h
  obtain ⟨a, b, ks, rfl, rfl, ea, eb, q⟩ := h
  obtain rfl : v = Value.ref a := rx
  obtain rfl : u = Value.ref b := ry
  obtain ⟨_, ya, va, ra, da⟩ := (show ObjOk X.prog X.w H s.heap a (.dK ks) from I.hok a _ ea)
  obtain ⟨_, yb, vb, rb, db⟩ := (show ObjOk X.prog X.w H s.heap b (.dK []) from I.hok b _ eb)
  have l0 : vb = [] := by
    have := rb.length
    cases vb with
    | nil => rfl
    | cons p r => cases this
  subst l0
  have la := ra.length
  refine PySem.W.keq_eq (knd := mixKind X.prog X.w) (r := true) ya yb da db (by omega) (fun e => ?_) ?_
  · cases va with
    | nil => exact .nil
    | cons p r => cases e
  · have e : (va.length == 0 && true) = ks.isEmpty := by
      cases ks with
      | nil => cases va with
        | nil => rfl
        | cons p r => cases la
      | cons p r => cases va with
        | nil => cases la
        | cons p2 r2 => rfl
    show EP X pins σ Q (Value.bool (va.length == 0 && true)) s
    rw [e]
    exact ⟨.bl _, H, I, rfl, q⟩
theorem op_neDE (hu : X.A.units + 1 < cLine) : OpR X (compareOp .NotEq) rNeDE := by
  intro pins s σ H x y v u Q I rx ry h
  obtain ⟨a, b, ks, rfl, rfl, ea, eb, q⟩ := h
  obtain rfl : v = Value.ref a := rx
  obtain rfl : u = Value.ref b := ry
  obtain ⟨_, ya, va, ra, da⟩ := (show ObjOk X.prog X.w H s.heap a (.dK ks) from I.hok a _ ea)
  obtain ⟨_, yb, vb, rb, db⟩ := (show ObjOk X.prog X.w H s.heap b (.dK []) from I.hok b _ eb)
  have l0 : vb = [] := by
    have := rb.length
    cases vb with
    | nil => rfl
    | cons p r => cases this
  subst l0
  have la := ra.length
  refine PySem.W.keq_ne (knd := mixKind X.prog X.w) (r := true) ya yb da db (by omega) (fun e => ?_) ?_
  · cases va with
    | nil => exact .nil
    | cons p r => cases e
  · have e : (!(va.length == 0 && true)) = !ks.isEmpty := by
      cases ks with
      | nil => cases va with
        | nil => rfl
        | cons p r => cases la
      | cons p r => cases va with
        | nil => cases la
        | cons p2 r2 => rfl
    show EP X pins σ Q (Value.bool (!(va.length == 0 && true))) s
    rw [e]
    exact ⟨.bl _, H, I, rfl, q⟩
/-- each second one of twelve -/
def ev2 {α : Type} : List α → List α
  | a :: _ :: r => a :: ev2 r
  | [a] => [a]
  | [] => []
def tEv2 (K : PySem.W.Frag) (te : TE) : TE := fun σ H Q => te σ H fun x H1 => ∃ a xs, x = .ref a ∧ SqL K H1 a xs ∧ xs.length = 12 ∧ ∀ p, H1 p = none → Q (.ref p) (upd H1 p (.lst (ev2 xs)))
theorem ev2_pick12 {v1 v2 v3 v4 v5 v6 v7 v8 v9 v10 v11 v12 : Value} : slicePick #[v1, v2, v3, v4, v5, v6, v7, v8, v9, v10, v11, v12] none none (some 2) = #[v1, v3, v5, v7, v9, v11] := by
  unfold slicePick
  have e : sliceBounds none none (some 2) (#[v1, v2, v3, v4, v5, v6, v7, v8, v9, v10, v11, v12] : Array Value).size = (0, 12, 2) := rfl
  rw [e]
  dsimp only
  rw [show sliceRange 0 12 2 = [0, 2, 4, 6, 8, 10] from by decide]
  rfl
theorem ev2_len {α : Type} : ∀ (n : Nat) (l : List α), l.length ≤ n → (ev2 l).length ≤ l.length
  | _, [], _ => Nat.le_refl _
  | _, [_], _ => Nat.le_refl _
  | n + 2, a :: b :: r, h => by
    have k := ev2_len n r (by simp at h; omega)
    show (ev2 r).length + 1 ≤ r.length + 1 + 1
    omega
  | 0, _ :: _ :: _, h => by simp at h
  | 1, _ :: _ :: _, h => by simp at h
theorem vals_ev2 : ∀ (n : Nat) {xs : List V} {us : List Value}, xs.length ≤ n → Vals xs us → Vals (ev2 xs) (ev2 us)
  | _, _, _, _, .nil => .nil
  | _, _, _, _, .cons h .nil => .cons h .nil
  | n + 2, _, _, l, .cons h (.cons _ r) => .cons h (vals_ev2 n (by simp at l; omega) r)
  | 0, _, _, l, .cons h (.cons _ r) => by simp at l
  | 1, _, _, l, .cons h (.cons _ r) => by simp at l
theorem twelve {α : Type} {l : List α} (h : l.length = 12) : ∃ a1 a2 a3 a4 a5 a6 a7 a8 a9 a10 a11 a12, l = [a1, a2, a3, a4, a5, a6, a7, a8, a9, a10, a11, a12] := by
  have one : ∀ {n : Nat} {l : List α}, l.length = n + 1 → ∃ a r, l = a :: r ∧ r.length = n := fun {n l} h => by
    cases l with
    | nil => cases h
    | cons a r => exact ⟨a, r, rfl, Nat.succ.inj h⟩
  obtain ⟨a1, r1, rfl, h1⟩ := one h
  obtain ⟨a2, r2, rfl, h2⟩ := one h1
  obtain ⟨a3, r3, rfl, h3⟩ := one h2
  obtain ⟨a4, r4, rfl, h4⟩ := one h3
  obtain ⟨a5, r5, rfl, h5⟩ := one h4
  obtain ⟨a6, r6, rfl, h6⟩ := one h5
  obtain ⟨a7, r7, rfl, h7⟩ := one h6
  obtain ⟨a8, r8, rfl, h8⟩ := one h7
  obtain ⟨a9, r9, rfl, h9⟩ := one h8
  obtain ⟨a10, r10, rfl, h10⟩ := one h9
  obtain ⟨a11, r11, rfl, h11⟩ := one h10
  obtain ⟨a12, r12, rfl, h12⟩ := one h11
  cases r12 with
  | nil => exact ⟨a1, a2, a3, a4, a5, a6, a7, a8, a9, a10, a11, a12, rfl⟩
  | cons => cases h12
theorem ev2_pick {l : List Value} (h : l.length = 12) : slicePick l.toArray none none (some 2) = (ev2 l).toArray := by
  obtain ⟨a1, a2, a3, a4, a5, a6, a7, a8, a9, a10, a11, a12, rfl⟩ := twelve h
  exact ev2_pick12
theorem pe_ev2 {e : Expr} {te : TE} {k : Nat} {p2 p3 pos : Pos} (he : PE X e te) : PE X (.Subscript e (.Slice none none (some (.Constant (.int 2) k p2)) p3) pos) (tEv2 X.K te) := by
  refine ⟨fun pins s σ H Q I h => ?_⟩
  refine Subscript_ (thn (he.run pins s σ H _ I h) fun v s1 ⟨x, H1, I1, r1, q1⟩ => ?_)
  obtain ⟨a, xs, ex, hx, l12, q⟩ := q1
  subst ex
  cases r1
  have hst : PO X (some (.Constant (.int 2) k p2)) (tPart (tC (.int 2))) := po_some pe_int
  refine wpAny_Slice (thn (po_none.run pins s1 σ H1 (fun o H2 => o = none ∧ H2 = H1) I1 ⟨rfl, rfl⟩) fun vl s2 ⟨l, H2, I2, pl, el, e2⟩ => ?_)
  subst el e2
  refine thn (po_none.run pins s2 σ H2 (fun o H3 => o = none ∧ H3 = H2) I2 ⟨rfl, rfl⟩) fun vu s3 ⟨u, H3, I3, pu, eu, e3⟩ => ?_
  subst eu e3
  refine thn (hst.run pins s3 σ H3 (fun o H4 => o = some 2 ∧ H4 = H3) I3 ⟨2, rfl, rfl, rfl⟩) fun vs s4 ⟨o, H4, I4, ps, eo, e4⟩ => ?_
  subst eo e4
  have I5 : Inv X pins σ H4 { s4 with heap := s4.heap.push { cls := .type "slice", data := .fields #[vl, vu, vs] } } := I4.kept (t' := s4.toks) fun b ob q => Heap.get?_push_of_some _ q
  obtain ⟨its, r, ht, hz⟩ := I5.list hx
  have hlen := r.length
  show wpAny (model X.prog X.w) X.A (subscriptTail e (.Slice none none (some (.Constant (.int 2) k p2)) p3) (.ref a) (.ref s4.heap.objs.size)) (EP X pins σ Q) X.xe { s4 with heap := s4.heap.push { cls := .type "slice", data := .fields #[vl, vu, vs] } }
  refine tail_any (ops := [.ref a, .ref s4.heap.objs.size]) ht.isList.typeIs (PySem.slot_list_getitem.lookup) ?_ (by with_unfolding_all rfl)
  refine wpAny_getItem_list_slice ht.isList (Heap.IsSliceOf.new _ vl vu vs) pl pu ps (by decide) ?_ (by rw [List.size_toArray]; omega)
  rw [ev2_pick (by rw [← hlen]; exact l12)]
  refine ⟨.ref _, _, I5.laid (t' := s4.toks) (o := .lst (ev2 xs)) (fun b ob q => Heap.get?_push_of_some _ q) (Nat.le_refl _) ?_, rfl, q _ (I5.hok.fresh (Nat.le_refl _))⟩
  exact ⟨Nat.le_trans (ev2_len _ xs (Nat.le_refl _)) hz, _, 0, vals_ev2 _ (Nat.le_refl _) r, Heap.get?_push_size _ rfl⟩
/-- how many keys -/
def rLenDK : List V → Hp → VK → Prop := fun xs H Q => ∃ a kvs, xs = [.ref a] ∧ Rd H a (.dK kvs) ∧ Q (.int ((kvs.length : Nat) : Int)) H
theorem lenDK : CallR X (.builtin "len") rLenDK := by
  intro pins s σ H xs us Q I r h
  obtain ⟨p, kvs, rfl, hp, q⟩ := h
  obtain ⟨u, rfl, rx⟩ := vals1 r
  obtain rfl : u = .ref p := rx
  exact d_len I hp fun t s' I' => ⟨.int ((kvs.length : Nat) : Int), H, I', ⟨_, rfl⟩, q⟩
end
end KR
/-! ### moulds: what a mould, the moulds of a row, the law's own book of them hold -/
namespace KR
open PySem PySem.Spec PyProof.Rows L2
section
variable {K : PySem.W.Frag} {H H' : Hp} {v : V} {q s w : Rat} {n : Nat} {d : PyData}
theorem FrQ.tk {x : Addr} (h : FrQ K H x q) (t : TK K H H') : FrQ K H' x q := t _ _ h
theorem JuQ.tk {x : Addr} (h : JuQ K H x s w) (t : TK K H H') : JuQ K H' x s w := by
  obtain ⟨a, b, h1, h2, h3⟩ := h
  exact ⟨a, b, t _ _ h1, h2.tk t, h3.tk t⟩
/-- a value that is a fraction; a juice -/
def FQ (K : PySem.W.Frag) (H : Hp) (v : V) (q : Rat) : Prop := ∃ a, v = .ref a ∧ FrQ K H a q
def JQ (K : PySem.W.Frag) (H : Hp) (v : V) (s w : Rat) : Prop := ∃ a, v = .ref a ∧ JuQ K H a s w
theorem FQ.tk (h : FQ K H v q) (t : TK K H H') : FQ K H' v q := h.elim fun a z => ⟨a, z.1, z.2.tk t⟩
theorem JQ.tk (h : JQ K H v s w) (t : TK K H H') : JQ K H' v s w := h.elim fun a z => ⟨a, z.1, z.2.tk t⟩
/-- data of tuples alone: it stays -/
inductive Dtu (K : PySem.W.Frag) (H : Hp) : Nat → V → PyData → Prop
  | non (n : Nat) : Dtu K H (n + 1) .non .none
  | bl (n : Nat) (b : Bool) : Dtu K H (n + 1) (.bl b) (.bool b)
  | int (n : Nat) (i : Int) : Dtu K H (n + 1) (.int i) (.int i)
  | str (n : Nat) (x : Str) (ok : PyData.canLay0 (.str x) = true) : Dtu K H (n + 1) (.str x) (.str x)
  | tup {n : Nat} {a : Addr} {xs : List V} {ds : List PyData} : SqT K H a xs → xs.length = ds.length → xs.length ≤ 100000 → (∀ (i : Nat) (x : V) (d : PyData), xs[i]? = some x → ds[i]? = some d → Dtu K H n x d) → Dtu K H (n + 1) (.ref a) (.tuple ds)
theorem Dtu.tk (t : TK K H H') : ∀ {n : Nat} {v : V} {d : PyData}, Dtu K H n v d → Dtu K H' n v d := by
  intro n v d h
  induction h with
  | non n => exact .non n
  | bl n b => exact .bl n b
  | int n i => exact .int n i
  | str n x ok => exact .str n x ok
  | tup h1 h2 h3 _ ih => exact .tup (t _ _ h1) h2 h3 ih
theorem Dtu.dk : ∀ {n : Nat} {v : V} {d : PyData}, Dtu K H n v d → Dk K H n v d := by
  intro n v d h
  induction h with
  | non n => exact .non n
  | bl n b => exact .bl n b
  | int n i => exact .int n i
  | str n x ok => exact .str n x ok
  | tup h1 h2 h3 _ ih => exact .tup h1 h2 h3 ih
theorem Dtu.up {m : Nat} (h : Dtu K H n v d) : n ≤ m → Dtu K H m v d := by
  intro le
  induction h generalizing m with
  | non n => obtain ⟨k, rfl⟩ : ∃ k, m = k + 1 := ⟨m - 1, by omega⟩; exact .non k
  | bl n b => obtain ⟨k, rfl⟩ : ∃ k, m = k + 1 := ⟨m - 1, by omega⟩; exact .bl k b
  | int n i => obtain ⟨k, rfl⟩ : ∃ k, m = k + 1 := ⟨m - 1, by omega⟩; exact .int k i
  | str n x ok => obtain ⟨k, rfl⟩ : ∃ k, m = k + 1 := ⟨m - 1, by omega⟩; exact .str k x ok
  | tup h1 h2 h3 _ ih => obtain ⟨k, rfl⟩ : ∃ k, m = k + 1 := ⟨m - 1, by omega⟩; exact .tup h1 h2 h3 fun i x d a b => ih i x d a b (by omega)
def DtuAll (K : PySem.W.Frag) (H : Hp) (n : Nat) (xs : List V) (ds : List PyData) : Prop := xs.length = ds.length ∧ ∀ (i : Nat) (x : V) (d : PyData), xs[i]? = some x → ds[i]? = some d → Dtu K H n x d
theorem DtuAll.nil : DtuAll K H n [] [] := ⟨rfl, fun i x d h => by simp at h⟩
theorem DtuAll.cons {xs : List V} {ds : List PyData} (h : Dtu K H n v d) (t : DtuAll K H n xs ds) : DtuAll K H n (v :: xs) (d :: ds) :=
  ⟨by rw [List.length_cons, List.length_cons, t.1], fun i u y hu hv => match i, hu, hv with
    | 0, hu, hv => by cases hu; cases hv; exact h
    | i + 1, hu, hv => t.2 i u y hu hv⟩
theorem DtuAll.snoc {xs : List V} {ds : List PyData} (t : DtuAll K H n xs ds) (h : Dtu K H n v d) : DtuAll K H n (xs ++ [v]) (ds ++ [d]) :=
  ⟨by rw [List.length_append, List.length_append, t.1] <;> rfl, fun i u y hu hv => by
    by_cases c : i < xs.length
    · rw [List.getElem?_append_left c] at hu
      rw [List.getElem?_append_left (by rw [← t.1]; exact c)] at hv
      exact t.2 i u y hu hv
    · have hi : i = xs.length := by
        have := (List.getElem?_eq_some_iff.mp hu).1
        rw [List.length_append, List.length_singleton] at this
        omega
      subst hi
      rw [List.getElem?_append_right (Nat.le_refl _), Nat.sub_self] at hu
      rw [List.getElem?_append_right (by rw [t.1]; exact Nat.le_refl _), t.1, Nat.sub_self] at hv
      cases hu
      cases hv
      exact h⟩
theorem DtuAll.tk {xs : List V} {ds : List PyData} (h : DtuAll K H n xs ds) (t : TK K H H') : DtuAll K H' n xs ds := ⟨h.1, fun i x d a b => (h.2 i x d a b).tk t⟩
theorem DtuAll.tup {xs : List V} {ds : List PyData} {a : Addr} (t : DtuAll K H n xs ds) (h : SqT K H a xs) (z : xs.length ≤ 100000) : Dtu K H (n + 1) (.ref a) (.tuple ds) := .tup h t.1 z t.2
theorem FrQ.dtu {x : Addr} (h : FrQ K H x q) (n : Nat := 0) : Dtu K H (n + 2) (.ref x) (dq q) := DtuAll.tup (.cons (.int _ _) (.cons (.int _ _) .nil)) h (by show 2 ≤ 100000; decide)
theorem JuQ.dtu {x : Addr} (h : JuQ K H x s w) (n : Nat := 0) : Dtu K H (n + 3) (.ref x) (dj s w) := by
  obtain ⟨a, b, h1, h2, h3⟩ := h
  exact DtuAll.tup (.cons (h2.dtu n) (.cons (h3.dtu n) .nil)) h1 (by show 2 ≤ 100000; decide)
theorem Dtu.tupI {a : Addr} {ds : List PyData} (h : Dtu K H (n + 1) (.ref a) (.tuple ds)) : ∃ xs, SqT K H a xs ∧ DtuAll K H n xs ds := by
  cases h with
  | tup h1 h2 h3 h4 => exact ⟨_, h1, h2, h4⟩
theorem Dtu.ref {ds : List PyData} (h : Dtu K H n v (.tuple ds)) : ∃ a, v = .ref a := by
  cases h with
  | tup h1 h2 h3 h4 => exact ⟨_, rfl⟩
theorem Dtu.intI {i : Int} (h : Dtu K H n v (.int i)) : v = .int i := by
  cases h with
  | int => rfl
theorem DtuAll.two {xs : List V} {d1 d2 : PyData} (h : DtuAll K H n xs [d1, d2]) : ∃ v1 v2, xs = [v1, v2] ∧ Dtu K H n v1 d1 ∧ Dtu K H n v2 d2 := by
  obtain ⟨l, p⟩ := h
  match xs, l with
  | [a, b], _ => exact ⟨a, b, rfl, p 0 _ _ rfl rfl, p 1 _ _ rfl rfl⟩
theorem Dtu.fq (h : Dtu K H (n + 1) v (dq q)) : FQ K H v q := by
  obtain ⟨a, rfl⟩ := h.ref
  obtain ⟨xs, h1, h2⟩ := h.tupI
  obtain ⟨l, p⟩ := h2
  match xs, l with
  | [x, y], _ =>
    have e1 := (p 0 _ _ rfl rfl).intI
    have e2 := (p 1 _ _ rfl rfl).intI
    subst e1 e2
    exact ⟨a, rfl, h1⟩
end
section
variable {K : PySem.W.Frag}
theorem dtk_all {H : Hp} {n : Nat} : ∀ {xs : List V} {ds : List PyData}, xs.length = ds.length → (∀ (i : Nat) (x : V) (d : PyData), xs[i]? = some x → ds[i]? = some d → Dp K H x d ∧ d.canLay0 = true ∧ d.depth ≤ n) → DpAll K H xs ds ∧ PyData.canLayAll0 ds = true ∧ PyData.depthAll ds ≤ n
  | [], [], _, _ => ⟨.nil, rfl, Nat.zero_le _⟩
  | x :: xs, d :: ds, l, h => by
    obtain ⟨a1, a2, a3⟩ := h 0 x d rfl rfl
    obtain ⟨b1, b2, b3⟩ := dtk_all (xs := xs) (ds := ds) (Nat.succ.inj l) fun i x d e1 e2 => h (i + 1) x d e1 e2
    refine ⟨.cons a1 b1, ?_, ?_⟩
    · show (PyData.canLay0 d && PyData.canLayAll0 ds) = true
      rw [a2, b2] <;> rfl
    · show max (PyData.depth d) (PyData.depthAll ds) ≤ n
      omega
  | [], _ :: _, l, _ => by simp at l
  | _ :: _, [], l, _ => by simp at l
theorem dtk_plain {H : Hp} : ∀ {n : Nat} {v : V} {d : PyData}, Dk K H n v d → Dp K H v d ∧ d.canLay0 = true ∧ d.depth ≤ n
  | _, _, _, .non _ => ⟨.non, rfl, Nat.zero_le _⟩
  | _, _, _, .bl _ b => ⟨.bl b, rfl, Nat.zero_le _⟩
  | _, _, _, .int _ i => ⟨.int i, rfl, Nat.zero_le _⟩
  | _, _, _, .str _ x ok => ⟨.str x, ok, Nat.zero_le _⟩
  | n + 1, _, _, .lst (xs := xs) (ds := ds) h1 h2 h3 h4 => by
    obtain ⟨a1, a2, a3⟩ := dtk_all (xs := xs) (ds := ds) (n := n) h2 fun i x d e1 e2 => dtk_plain (h4 i x d e1 e2)
    exact ⟨.lst (SqL.of h1) a1, a2, Nat.succ_le_succ a3⟩
  | n + 1, _, _, .tup (xs := xs) (ds := ds) h1 h2 h3 h4 => by
    obtain ⟨a1, a2, a3⟩ := dtk_all (xs := xs) (ds := ds) (n := n) h2 fun i x d e1 e2 => dtk_plain (h4 i x d e1 e2)
    exact ⟨.tup h1 a1, a2, Nat.succ_le_succ a3⟩
theorem Dtu.sh {H : Hp} {n : Nat} {v : V} {d : PyData} (h : Dtu K H n v d) (le : n ≤ 60) : Dp K H v d ∧ SeqAt.shaped d = true := by
  obtain ⟨a1, a2, a3⟩ := dtk_plain h.dk
  refine ⟨a1, ?_⟩
  show (PyData.canLay0 d && decide (PyData.depth d ≤ 64)) = true
  rw [a2, decide_eq_true (by omega)] <;> rfl
end
/-! one mould -/
structure Mo where
  room : Int
  drip : Rat
  s : Rat
  w : Rat
  ks : List Int
  q : Int → Rat
  cur : Bool
/-- all of its sugar as it was poured -/
def Mo.tot (m : Mo) : Rat := zsum (m.ks.map m.q)
def srt (ks : List Int) : List Int := ks.mergeSort fun a b => decide (a ≤ b)
theorem srt_perm (ks : List Int) : (srt ks).Perm ks := List.mergeSort_perm _ _
theorem srt_up (ks : List Int) : (srt ks).Pairwise (· ≤ ·) := by
  have h := List.pairwise_mergeSort (le := fun a b : Int => decide (a ≤ b)) (fun a b c h k => decide_eq_true (Int.le_trans (of_decide_eq_true h) (of_decide_eq_true k))) (fun a b => by
    rcases Int.le_total a b with h | h
    · rw [decide_eq_true h] <;> rfl
    · rw [decide_eq_true h, Bool.or_true]) ks
  exact h.imp fun h => of_decide_eq_true h
theorem srt_eq {ks ys : List Int} (p : ys.Perm ks) (u : ys.Pairwise (· ≤ ·)) : ys = srt ks :=
  List.Perm.eq_of_pairwise (fun a b _ _ h k => Int.le_antisymm h k) u (srt_up ks) (p.trans (srt_perm ks).symm)
theorem mem_srt {ks : List Int} {k : Int} : k ∈ srt ks ↔ k ∈ ks := (srt_perm ks).mem_iff
def Mo.shp (m : Mo) (k : Int) : PyData := .tuple [.int k, dq (m.q k / m.tot)]
/-- the shares that it bears -/
def Mo.shd (m : Mo) : PyData := .tuple ((srt m.ks).map fun k => .tuple [.int k, dq (m.q k / m.tot)])
def mo0 (room : Int) (drip : Rat) : Mo := ⟨room, drip, 0, 0, [], fun _ => 0, false⟩
def Mo.bear (m : Mo) (k : Int) (s : Rat) : Mo := { m with ks := addK m.ks k, q := set1 m.q k ((if k ∈ m.ks then m.q k else 0) + s) }
def Mo.drained (m : Mo) : Mo := { m with s := m.s - m.s * m.drip, w := 0, cur := true }
def Mo.cleared (m : Mo) : Mo := { m with s := 0, w := 0, ks := [], cur := false }
def Mo.poured (m : Mo) (s w : Rat) : Mo := { m with s := s, w := w }
/-- numbers of it that can be reckoned with -/
structure Mo.Fit (m : Mo) : Prop where
  nd : m.ks.Nodup
  len : m.ks.length < 64
  big : ∀ k ∈ m.ks, Big (m.q k)
  add : AddOk (m.ks.map m.q)
  tot : m.ks ≠ [] → m.tot ≠ 0
  s : Big m.s
  w : Big m.w
  drip : Big m.drip
  gone : Big (m.s * m.drip)
/-- the attributes of a mould, as they are stored -/
def mf (room : Int) (dv jv : V) (g : Addr) (cur : Bool) : List (Str × V) := [("room", .int room), ("drip", dv), ("juice", jv), ("sugars", .ref g), ("cured", .bl cur)]
def mfs (rv : V) (t : Addr) (vv : V) (l : Addr) : List (Str × V) := [("_row", rv), ("_table", .ref t), ("_vat", vv), ("_loaves", .ref l)]
/-- a mould of the class C stands at c, its sugars at g -/
structure CellAt (K : PySem.W.Frag) (C : Addr) (H : Hp) (c g : Addr) (m : Mo) : Prop where
  at_ : ∃ dx dv jv, H c = some (.ins C dx (mf m.room dv jv g m.cur)) ∧ FQ K H dv m.drip ∧ JQ K H jv m.s m.w
  sug : ∃ f : Int → V, H g = some (.dK (byK kI m.ks f)) ∧ ∀ k ∈ m.ks, FQ K H (f k) (m.q k)
theorem CellAt.off {K : PySem.W.Frag} {C : Addr} {H H' : Hp} {c g : Addr} {m : Mo} {R : Addr → Prop} (h : CellAt K C H c g m) (o : Off K R H H') (nc : ¬ R c) (ng : ¬ R g) : CellAt K C H' c g m := by
  obtain ⟨⟨dx, dv, jv, h1, h2, h3⟩, f, h4, h5⟩ := h
  exact ⟨⟨dx, dv, jv, o.ins nc h1, h2.tk o.tk, h3.tk o.tk⟩, f, o.dK ng h4, fun k hk => (h5 k hk).tk o.tk⟩
theorem CellAt.same {K : PySem.W.Frag} {C : Addr} {H H' : Hp} {c g : Addr} {m : Mo} (h : CellAt K C H c g m) (s : Same H H') : CellAt K C H' c g m := h.off (R := fun _ => False) (.same s) id id
theorem CellAt.ne {K : PySem.W.Frag} {C : Addr} {H : Hp} {c g : Addr} {m : Mo} (h : CellAt K C H c g m) : c ≠ g := by
  obtain ⟨⟨dx, dv, jv, h1, h2, h3⟩, f, h4, h5⟩ := h
  exact ne_of h1 h4 (by intro z; cases z)
/-- the moulds of a row, by their names -/
structure MAd where
  p : Addr
  t : Addr
  l : Addr
  c : Str → Addr
  g : Str → Addr
def MAd.R (A : MAd) (nms : List Str) : Addr → Prop := fun a => a = A.p ∨ a = A.l ∨ ∃ x ∈ nms, a = A.c x ∨ a = A.g x
structure MouldsAt (K : PySem.W.Frag) (CO CM : Addr) (H : Hp) (A : MAd) (nms : List Str) (st : Str → Mo) (vs vw : Rat) (lds : List PyData) : Prop where
  p : ∃ dx rv vv, H A.p = some (.ins CO dx (mfs rv (A.t) vv A.l)) ∧ JQ K H vv vs vw
  t : Rd H A.t (.dK (byK kN nms fun x => .ref (A.c x)))
  l : ∃ lvs, H A.l = some (.lst lvs) ∧ lvs.length ≤ 50000 ∧ DtuAll K H 5 lvs lds
  cell : ∀ x ∈ nms, CellAt K CM H (A.c x) (A.g x) (st x)
  ci : ∀ x ∈ nms, ∀ y ∈ nms, A.c x = A.c y → x = y
  gi : ∀ x ∈ nms, ∀ y ∈ nms, A.g x = A.g y → x = y
  gt : ∀ x ∈ nms, A.g x ≠ A.t
  cp : ∀ x ∈ nms, A.c x ≠ A.p
section
variable {K : PySem.W.Frag} {CO CM : Addr} {H H' : Hp} {A : MAd} {nms : List Str} {st st' : Str → Mo} {vs vw : Rat} {lds : List PyData} {R : Addr → Prop}
theorem MouldsAt.off (h : MouldsAt K CO CM H A nms st vs vw lds) (o : Off K R H H') (n : ∀ a, A.R nms a → ¬ R a) (nt : ¬ R A.t) : MouldsAt K CO CM H' A nms st vs vw lds := by
  obtain ⟨⟨dx, rv, vv, h1, h2⟩, ht, ⟨lvs, h3, h4, h5⟩, hc, ci, gi, gt, cp⟩ := h
  exact ⟨⟨dx, rv, vv, o.ins (n _ (.inl rfl)) h1, h2.tk o.tk⟩, o.rd nt ht nofun, ⟨lvs, o.lst (n _ (.inr (.inl rfl))) h3, h4, h5.tk o.tk⟩, fun x hx => (hc x hx).off o (n _ (.inr (.inr ⟨x, hx, .inl rfl⟩))) (n _ (.inr (.inr ⟨x, hx, .inr rfl⟩))), ci, gi, gt, cp⟩
theorem MouldsAt.same (h : MouldsAt K CO CM H A nms st vs vw lds) (s : Same H H') : MouldsAt K CO CM H' A nms st vs vw lds := h.off (R := fun _ => False) (.same s) (fun _ _ => id) id
theorem MouldsAt.congr (h : MouldsAt K CO CM H A nms st vs vw lds) (e : ∀ x ∈ nms, st x = st' x) : MouldsAt K CO CM H A nms st' vs vw lds := ⟨h.p, h.t, h.l, fun x hx => e x hx ▸ h.cell x hx, h.ci, h.gi, h.gt, h.cp⟩
theorem MouldsAt.there (h : MouldsAt K CO CM H A nms st vs vw lds) {a : Addr} (r : A.R nms a) : ∃ o, H a = some o ∧ Chg o := by
  obtain ⟨⟨dx, rv, vv, h1, h2⟩, ht, ⟨lvs, h3, h4, h5⟩, hc, _⟩ := h
  rcases r with rfl | rfl | ⟨x, hx, rfl | rfl⟩
  · exact ⟨_, h1, .ins⟩
  · exact ⟨_, h3, .lst⟩
  · obtain ⟨⟨dx, dv, jv, h1, _⟩, _⟩ := hc x hx
    exact ⟨_, h1, .ins⟩
  · obtain ⟨_, f, h1, _⟩ := hc x hx
    exact ⟨_, h1, .dK⟩
/-- one mould of them changed: the heap but c, g of it stayed -/
theorem MouldsAt.set (h : MouldsAt K CO CM H A nms st vs vw lds) {x : Str} (hx : x ∈ nms) {m : Mo} (o : Off K (fun a => a = A.c x ∨ a = A.g x) H H') (hc : CellAt K CM H' (A.c x) (A.g x) m) : MouldsAt K CO CM H' A nms (set1 st x m) vs vw lds := by
  have nt : ¬ (A.t = A.c x ∨ A.t = A.g x) := fun z => by
    rcases z with z | z
    · obtain ⟨⟨dx, dv, jv, h1, _⟩, _⟩ := h.cell x hx
      rcases h.t with t | ⟨ob, t⟩ <;> (rw [z, h1] at t; cases t)
    · exact h.gt x hx z.symm
  obtain ⟨⟨dx, rv, vv, h1, h2⟩, ht, ⟨lvs, h3, h4, h5⟩, hcs, ci, gi, gt, cp⟩ := h
  obtain ⟨⟨dx2, dv, jv, k1, _⟩, f, k2, _⟩ := hcs x hx
  refine ⟨⟨dx, rv, vv, o.ins (fun z => ?_) h1, h2.tk o.tk⟩, o.rd nt ht nofun, ⟨lvs, o.lst (fun z => ?_) h3, h4, h5.tk o.tk⟩, fun y hy => ?_, ci, gi, gt, cp⟩
  · rcases z with z | z
    · exact cp x hx z.symm
    · rw [z, k2] at h1; cases h1
  · rcases z with z | z
    · rw [z, k1] at h3; cases h3
    · rw [z, k2] at h3; cases h3
  · by_cases e : y = x
    · subst e
      rw [set1_same]
      exact hc
    · rw [set1_ne e]
      obtain ⟨⟨dx3, dv3, jv3, k3, _⟩, f3, k4, _⟩ := hcs y hy
      refine (hcs y hy).off o (fun z => ?_) (fun z => ?_)
      · rcases z with z | z
        · exact e (ci y hy x hx z)
        · rw [z, k2] at k3; cases k3
      · rcases z with z | z
        · rw [z, k1] at k4; cases k4
        · exact e (gi y hy x hx z)
/-- one of them made anew, its sugars elsewhere -/
theorem MouldsAt.setg (h : MouldsAt K CO CM H A nms st vs vw lds) {x : Str} (hx : x ∈ nms) {m : Mo} {g : Addr} (n : H g = none) (o : Off K (· = A.c x) H H') (hc : CellAt K CM H' (A.c x) g m) : MouldsAt K CO CM H' { A with g := set1 A.g x g } nms (set1 st x m) vs vw lds := by
  have nt : ¬ A.t = A.c x := fun z => by
    obtain ⟨⟨dx, dv, jv, h1, _⟩, _⟩ := h.cell x hx
    rcases h.t with t | ⟨ob, t⟩ <;> (rw [z, h1] at t; cases t)
  have ng : ∀ y ∈ nms, g ≠ A.g y := fun y hy z => by
    obtain ⟨_, f3, k4, _⟩ := h.cell y hy
    rw [← z, n] at k4
    cases k4
  have ngt : g ≠ A.t := fun z => by
    rcases h.t with t | ⟨ob, t⟩ <;> (rw [← z, n] at t; cases t)
  obtain ⟨⟨dx, rv, vv, h1, h2⟩, ht, ⟨lvs, h3, h4, h5⟩, hcs, ci, gi, gt, cp⟩ := h
  obtain ⟨⟨dx2, dv, jv, k1, _⟩, f, k2, _⟩ := hcs x hx
  refine ⟨⟨dx, rv, vv, o.ins (fun z => cp x hx z.symm) h1, h2.tk o.tk⟩, o.rd nt ht (fun _ z => by cases z), ⟨lvs, o.lst (fun z => ?_) h3, h4, h5.tk o.tk⟩, fun y hy => ?_, ci, fun y hy z hz e => ?_, fun y hy => ?_, cp⟩
  · rw [z, k1] at h3; cases h3
  · show CellAt K CM H' (A.c y) (set1 A.g x g y) (set1 st x m y)
    by_cases e : y = x
    · subst e
      rw [set1_same, set1_same]
      exact hc
    · rw [set1_ne e, set1_ne e]
      obtain ⟨⟨dx3, dv3, jv3, k3, _⟩, f3, k4, _⟩ := hcs y hy
      refine (hcs y hy).off o (fun z => e (ci y hy x hx z)) (fun z => ?_)
      rw [z, k1] at k4; cases k4
  · change set1 A.g x g y = set1 A.g x g z at e
    by_cases e1 : y = x
    · by_cases e2 : z = x
      · rw [e1, e2]
      · rw [e1, set1_same, set1_ne e2] at e
        exact absurd e (ng z hz)
    · by_cases e2 : z = x
      · rw [e2, set1_same, set1_ne e1] at e
        exact absurd e.symm (ng y hy)
      · rw [set1_ne e1, set1_ne e2] at e
        exact gi y hy z hz e
  · change set1 A.g x g y ≠ A.t
    by_cases e1 : y = x
    · rw [e1, set1_same]
      exact ngt
    · rw [set1_ne e1]
      exact gt y hy
/-- what stands in the vat changed -/
theorem MouldsAt.vat (h : MouldsAt K CO CM H A nms st vs vw lds) {dx : Addr} {rv vv vv2 : V} {t l : Addr} {vs2 vw2 : Rat} (e : H A.p = some (.ins CO dx (mfs rv t vv l))) (j : JQ K H vv2 vs2 vw2) : MouldsAt K CO CM (upd H A.p (.ins CO dx (mfs rv t vv2 l))) A nms st vs2 vw2 lds := by
  have o : Off K (· = A.p) H (upd H A.p (.ins CO dx (mfs rv t vv2 l))) := .put e .ins rfl
  obtain ⟨⟨dx2, rv2, vv3, h1, h2⟩, ht, ⟨lvs, h3, h4, h5⟩, hcs, ci, gi, gt, cp⟩ := h
  rw [e] at h1
  cases h1
  refine ⟨⟨dx, rv, vv2, upd_same, j.tk o.tk⟩, o.rd (fun z => ?_) ht (fun _ z => by cases z), ⟨lvs, o.lst (fun z => ?_) h3, h4, h5.tk o.tk⟩, fun y hy => (hcs y hy).off o (cp y hy) (fun z => ?_), ci, gi, gt, cp⟩
  · rcases ht with k | ⟨ob, k⟩ <;> (rw [z, e] at k; cases k)
  · rw [z, e] at h3; cases h3
  · obtain ⟨_, f3, k4, _⟩ := hcs y hy
    rw [z, e] at k4; cases k4
/-- one loaf more -/
theorem MouldsAt.loaf (h : MouldsAt K CO CM H A nms st vs vw lds) {lvs : List V} {v : V} {d : PyData} (e : H A.l = some (.lst lvs)) (le : lvs.length < 50000) (k : Dtu K H 5 v d) : MouldsAt K CO CM (upd H A.l (.lst (lvs ++ [v]))) A nms st vs vw (lds ++ [d]) := by
  have o : Off K (· = A.l) H (upd H A.l (.lst (lvs ++ [v]))) := .put e .lst rfl
  obtain ⟨⟨dx2, rv2, vv3, h1, h2⟩, ht, ⟨lvs2, h3, h4, h5⟩, hcs, ci, gi, gt, cp⟩ := h
  rw [e] at h3
  cases h3
  refine ⟨⟨dx2, rv2, vv3, o.ins (fun z => ?_) h1, h2.tk o.tk⟩, o.rd (fun z => ?_) ht (fun _ z => by cases z), ⟨_, upd_same, by rw [List.length_append, List.length_singleton]; omega, (h5.snoc k).tk o.tk⟩, fun y hy => (hcs y hy).off o (fun z => ?_) (fun z => ?_), ci, gi, gt, cp⟩
  · rw [z, e] at h1; cases h1
  · rcases ht with k | ⟨ob, k⟩ <;> (rw [z, e] at k; cases k)
  · obtain ⟨⟨dx3, dv3, jv3, k3, _⟩, f3, k4, _⟩ := hcs y hy
    rw [z, e] at k3; cases k3
  · obtain ⟨_, f3, k4, _⟩ := hcs y hy
    rw [z, e] at k4; cases k4
end
/-! refusals -/
def Rf (C : Addr) (nm : Str) (v : V) (H : Hp) (E : XK) : Prop := ∀ d H', Same H H' → H' d = some (.xd (wh nm v)) → E (.ref C) (some d) H'
theorem Rf.same {C : Addr} {nm : Str} {v : V} {H H' : Hp} {E : XK} (h : Rf C nm v H E) (s : Same H H') : Rf C nm v H' E := fun d H2 s2 e => h d H2 (s.trans s2) e
/-! contracts -/
def sp_jw2 (K : PySem.W.Frag) : Sp := fun vs H Q _ => ∃ (x y : Addr) (s w s' w' : Rat), vs = [.ref x, .ref y] ∧ JuQ K H x s w ∧ JuQ K H y s' w' ∧ Big s ∧ Big w ∧ Big s' ∧ Big w' ∧ ∀ z H', Same H H' → JuQ K H' z (s + s') (w + w') → Q (.ref z) H'
def sp_volW (K : PySem.W.Frag) : Sp := fun vs H Q _ => ∃ (x : Addr) (s w : Rat), vs = [.ref x] ∧ JuQ K H x s w ∧ Big s ∧ Big w ∧ ∀ z H', Same H H' → FrQ K H' z (s + w) → Q (.ref z) H'
def sp_lessB (K : PySem.W.Frag) : Sp := fun vs H Q _ => ∃ (x y : Addr) (p q : Rat), vs = [.ref x, .ref y] ∧ FrQ K H x p ∧ FrQ K H y q ∧ Big p ∧ Big q ∧ Q (.bl (decide (p < q))) H
def sp_Mould_init (K : PySem.W.Frag) (C : Addr) : Sp := fun vs H Q _ => ∃ (c dx : Addr) (r : Int) (dv : V) (d : Rat), vs = [.ref c, .int r, dv] ∧ H c = some (.ins C dx []) ∧ FQ K H dv d ∧ ∀ g H', H g = none → CellAt K C H' c g (mo0 r d) → Off K (· = c) H H' → Q .non H'
def sp_Mould_bear (K : PySem.W.Frag) (C : Addr) : Sp := fun vs H Q _ => ∃ (c g : Addr) (m : Mo) (k : Int) (a : Addr) (s : Rat), vs = [.ref c, .int k, .ref a] ∧ CellAt K C H c g m ∧ FrQ K H a s ∧ Big s ∧ (k ∈ m.ks → Big (m.q k)) ∧ m.ks.length < 1000 ∧ ∀ H', CellAt K C H' c g (m.bear k s) → Off K (· = g) H H' → Q .non H'
def sp_Mould_strike_shares (K : PySem.W.Frag) (C : Addr) : Sp := fun vs H Q _ => ∃ (c g : Addr) (m : Mo), vs = [.ref c] ∧ CellAt K C H c g m ∧ m.Fit ∧ ∀ a H', Same H H' → Dtu K H' 4 (.ref a) m.shd → Q (.ref a) H'
def sp_Mould_drip_out (K : PySem.W.Frag) (C : Addr) : Sp := fun vs H Q _ => ∃ (c g : Addr) (m : Mo), vs = [.ref c] ∧ CellAt K C H c g m ∧ m.Fit ∧ ∀ a H', CellAt K C H' c g m.drained → JuQ K H' a (m.s * m.drip) m.w → Off K (· = c) H H' → Q (.ref a) H'
def sp_Mould_clear_out (K : PySem.W.Frag) (C : Addr) : Sp := fun vs H Q _ => ∃ (c g : Addr) (m : Mo), vs = [.ref c] ∧ CellAt K C H c g m ∧ ∀ g' H', H g' = none → CellAt K C H' c g' m.cleared → Off K (· = c) H H' → Q .non H'
def sp_need_some (K : PySem.W.Frag) (CE : Addr) : Sp := fun vs H Q E => ∃ (v : V) (a : Addr) (s w : Rat), vs = [v, .ref a] ∧ JuQ K H a s w ∧ ((s = 0 ∧ w = 0) → Rf CE "Empty" v H E) ∧ (¬ (s = 0 ∧ w = 0) → ∀ H', Same H H' → Q .non H')
def sp_poured_into (K : PySem.W.Frag) (CR : Addr) : Sp := fun vs H Q E => ∃ (v : V) (r : Int) (a b : Addr) (s w s' w' : Rat), vs = [v, .int r, .ref a, .ref b] ∧ JuQ K H a s w ∧ JuQ K H b s' w' ∧ Big s ∧ Big w ∧ Big s' ∧ Big w' ∧ Big (s + s') ∧ Big (w + w') ∧ Big (s + s' + (w + w')) ∧ Big (r : Rat) ∧
  ((r : Rat) < s + s' + (w + w') → Rf CR "NoRoom" v H E) ∧ (¬ (r : Rat) < s + s' + (w + w') → ∀ z H', Same H H' → JuQ K H' z (s + s') (w + w') → Q (.ref z) H')
def sp_Moulds_named (K : PySem.W.Frag) (CO CN : Addr) : Sp := fun vs H Q E => ∃ (p t l dx : Addr) (rv vv : V) (x : Str) (nms : List Str) (c : Str → Addr), vs = [.ref p, .str x] ∧ H p = some (.ins CO dx (mfs rv t vv l)) ∧ Rd H t (.dK (byK kN nms fun x => .ref (c x))) ∧
  (x ∉ nms → Rf CN "NoMould" (.str x) H E) ∧ (x ∈ nms → Q (.ref (c x)) H)
/-- pours: a mould's name, sugar, water -/
abbrev Pour := Str × Rat × Rat
def PourAt (K : PySem.W.Frag) (H : Hp) (v : V) (p : Pour) : Prop := ∃ t j, v = .ref t ∧ SqT K H t [.str p.1, .ref j] ∧ JuQ K H j p.2.1 p.2.2
theorem PourAt.tk {K : PySem.W.Frag} {H H' : Hp} {v : V} {p : Pour} (h : PourAt K H v p) (t : TK K H H') : PourAt K H' v p := by
  obtain ⟨a, j, e, h1, h2⟩ := h
  exact ⟨a, j, e, t _ _ h1, h2.tk t⟩
abbrev Ju := Rat × Rat
def jst (F : Str → Ju) (p : Pour) : Str → Ju := set1 F p.1 ((F p.1).1 + p.2.1, (F p.1).2 + p.2.2)
def beh (F : Str → Ju) (ps : List Pour) : Str → Ju := ps.foldl jst F
def pks (ps : List Pour) : List Str := ps.foldl (fun l p => addK l p.1) []
def jus (st : Str → Mo) : Str → Ju := fun x => ((st x).s, (st x).w)
/-- the first pour at fault: 0 no mould, 1 cured, 2 no room -/
def pflt (nms : List Str) (st : Str → Mo) : (Str → Ju) → List Pour → Option (Nat × Str)
  | _, [] => none
  | F, p :: r => if p.1 ∉ nms then some (0, p.1) else if (st p.1).cur = true then some (1, p.1) else if ((st p.1).room : Rat) < (F p.1).1 + p.2.1 + ((F p.1).2 + p.2.2) then some (2, p.1) else pflt nms st (jst F p) r
theorem foldl_take {α β : Type} {f : β → α → β} {b : β} {l : List α} {i : Nat} {x : α} (h : l[i]? = some x) : (l.take (i + 1)).foldl f b = f ((l.take i).foldl f b) x := by
  rw [take_one h, List.foldl_append] <;> rfl
theorem beh_take {F : Str → Ju} {ps : List Pour} {i : Nat} {p : Pour} (h : ps[i]? = some p) : beh F (ps.take (i + 1)) = jst (beh F (ps.take i)) p := foldl_take h
theorem pks_take {ps : List Pour} {i : Nat} {p : Pour} (h : ps[i]? = some p) : pks (ps.take (i + 1)) = addK (pks (ps.take i)) p.1 := foldl_take (f := fun l (p : Pour) => addK l p.1) h
theorem drop_at {α : Type} {l : List α} {i : Nat} {x : α} (h : l[i]? = some x) : l.drop i = x :: l.drop (i + 1) := by
  have hi := (List.getElem?_eq_some_iff.mp h).1
  rw [List.drop_eq_getElem_cons hi]
  have := (List.getElem?_eq_some_iff.mp h).2
  rw [this]
def sp_Moulds__juices_behind (K : PySem.W.Frag) (CO CM CN CC CR : Addr) : Sp := fun vs H Q E => ∃ (A : MAd) (nms : List Str) (st : Str → Mo) (v1 v2 : Rat) (lds : List PyData) (l : Addr) (pvs : List V) (ps : List Pour), vs = [.ref A.p, .ref l] ∧ MouldsAt K CO CM H A nms st v1 v2 lds ∧ SqL K H l pvs ∧ pvs.length = ps.length ∧ (∀ (i : Nat) (v : V) (p : Pour), pvs[i]? = some v → ps[i]? = some p → PourAt K H v p) ∧ ps.length ≤ 1000 ∧
  (∀ p ∈ ps, Big p.2.1 ∧ Big p.2.2) ∧ (∀ i, i ≤ ps.length → ∀ x ∈ nms, Big (beh (jus st) (ps.take i) x).1 ∧ Big (beh (jus st) (ps.take i) x).2 ∧ Big ((beh (jus st) (ps.take i) x).1 + (beh (jus st) (ps.take i) x).2)) ∧ (∀ x ∈ nms, Big ((st x).room : Rat)) ∧
  (∀ x, pflt nms st (jus st) ps = some (0, x) → Rf CN "NoMould" (.str x) H E) ∧ (∀ x, pflt nms st (jus st) ps = some (1, x) → Rf CC "Cured" (.str x) H E) ∧ (∀ x, pflt nms st (jus st) ps = some (2, x) → Rf CR "NoRoom" (.str x) H E) ∧
  (pflt nms st (jus st) ps = none → ∀ D f H', H D = none → Same H H' → H' D = some (.dK (byK kN (pks ps) f)) → (∀ x ∈ pks ps, JQ K H' (f x) (beh (jus st) ps x).1 (beh (jus st) ps x).2) → Q (.ref D) H')
/-- what a filling leaves -/
def fst1 (F : Str → Ju) (k : Int) (S : Str → Mo) (p : Pour) : Str → Mo := set1 S p.1 (((S p.1).poured (F p.1).1 (F p.1).2).bear k p.2.1)
def filled (st : Str → Mo) (k : Int) (ps : List Pour) : Str → Mo := ps.foldl (fst1 (beh (jus st) ps) k) st
def sp_Moulds_fill (K : PySem.W.Frag) (CO CM CN CC CR : Addr) : Sp := fun vs H Q E => ∃ (A : MAd) (nms : List Str) (st : Str → Mo) (v1 v2 : Rat) (lds : List PyData) (k : Int) (l : Addr) (pvs : List V) (ps : List Pour), vs = [.ref A.p, .int k, .ref l] ∧ MouldsAt K CO CM H A nms st v1 v2 lds ∧ SqL K H l pvs ∧ ¬ A.R nms l ∧ pvs.length = ps.length ∧ (∀ (i : Nat) (v : V) (p : Pour), pvs[i]? = some v → ps[i]? = some p → PourAt K H v p) ∧ ps.length ≤ 1000 ∧
  (∀ p ∈ ps, Big p.2.1 ∧ Big p.2.2) ∧ (∀ i, i ≤ ps.length → ∀ x ∈ nms, Big (beh (jus st) (ps.take i) x).1 ∧ Big (beh (jus st) (ps.take i) x).2 ∧ Big ((beh (jus st) (ps.take i) x).1 + (beh (jus st) (ps.take i) x).2)) ∧ (∀ x ∈ nms, Big ((st x).room : Rat)) ∧
  (∀ i, i < ps.length → ∀ x ∈ nms, ((ps.take i).foldl (fst1 (beh (jus st) ps) k) st x).ks.length < 1000 ∧ (k ∈ ((ps.take i).foldl (fst1 (beh (jus st) ps) k) st x).ks → Big (((ps.take i).foldl (fst1 (beh (jus st) ps) k) st x).q k))) ∧
  (∀ x, pflt nms st (jus st) ps = some (0, x) → Rf CN "NoMould" (.str x) H E) ∧ (∀ x, pflt nms st (jus st) ps = some (1, x) → Rf CC "Cured" (.str x) H E) ∧ (∀ x, pflt nms st (jus st) ps = some (2, x) → Rf CR "NoRoom" (.str x) H E) ∧
  (pflt nms st (jus st) ps = none → ∀ H', MouldsAt K CO CM H' A nms (filled st k ps) v1 v2 lds → Off K (A.R nms) H H' → Q .non H')
def sp_Moulds_drain (K : PySem.W.Frag) (CO CM CN CE CC : Addr) : Sp := fun vs H Q E => ∃ (A : MAd) (nms : List Str) (st : Str → Mo) (v1 v2 : Rat) (lds : List PyData) (x : Str), vs = [.ref A.p, .str x] ∧ MouldsAt K CO CM H A nms st v1 v2 lds ∧ (x ∈ nms → (st x).Fit) ∧ Big v1 ∧ Big v2 ∧
  (x ∉ nms → Rf CN "NoMould" (.str x) H E) ∧ (x ∈ nms → ((st x).s = 0 ∧ (st x).w = 0) → Rf CE "Empty" (.str x) H E) ∧ (x ∈ nms → ¬ ((st x).s = 0 ∧ (st x).w = 0) → (st x).cur = true → Rf CC "Cured" (.str x) H E) ∧
  (x ∈ nms → ¬ ((st x).s = 0 ∧ (st x).w = 0) → (st x).cur = false → ∀ a H', MouldsAt K CO CM H' A nms (set1 st x (st x).drained) (v1 + (st x).s * (st x).drip) (v2 + (st x).w) lds → JuQ K H' a ((st x).s * (st x).drip) (st x).w → Off K (A.R nms) H H' → Q (.ref a) H')
def loafD (x : Str) (m : Mo) : PyData := .tuple [.str x, dq m.s, m.shd]
def sp_Moulds_knock (K : PySem.W.Frag) (CO CM CN CE CC : Addr) : Sp := fun vs H Q E => ∃ (A : MAd) (nms : List Str) (st : Str → Mo) (v1 v2 : Rat) (lds : List PyData) (x : Str), vs = [.ref A.p, .str x] ∧ MouldsAt K CO CM H A nms st v1 v2 lds ∧ (x ∈ nms → (st x).Fit ∧ PyData.canLay0 (.str x) = true) ∧ lds.length < 50000 ∧
  (x ∉ nms → Rf CN "NoMould" (.str x) H E) ∧ (x ∈ nms → ((st x).s = 0 ∧ (st x).w = 0) → Rf CE "Empty" (.str x) H E) ∧ (x ∈ nms → ¬ ((st x).s = 0 ∧ (st x).w = 0) → (st x).cur = false → Rf CC "NotCured" (.str x) H E) ∧
  (x ∈ nms → ¬ ((st x).s = 0 ∧ (st x).w = 0) → (st x).cur = true → ∀ a g H', H g = none → MouldsAt K CO CM H' { A with g := set1 A.g x g } nms (set1 st x (st x).cleared) v1 v2 (lds ++ [loafD x (st x)]) → Dtu K H' 5 (.ref a) (.tuple [dq (st x).s, (st x).shd]) → Off K (A.R nms) H H' → Q (.ref a) H')
def sp_Moulds_bears (K : PySem.W.Frag) (CO CM CN : Addr) : Sp := fun vs H Q E => ∃ (A : MAd) (nms : List Str) (st : Str → Mo) (v1 v2 : Rat) (lds : List PyData) (x : Str), vs = [.ref A.p, .str x] ∧ MouldsAt K CO CM H A nms st v1 v2 lds ∧ (x ∈ nms → (st x).Fit) ∧
  (x ∉ nms → Rf CN "NoMould" (.str x) H E) ∧ (x ∈ nms → ∀ a H', Same H H' → Dtu K H' 4 (.ref a) (st x).shd → Q (.ref a) H')
/-- a row's mould that is read: its name, room, drip -/
abbrev RM := Str × Int × Rat
def RmAt (K : PySem.W.Frag) (H : Hp) (v : V) (p : RM) : Prop := ∃ t dv, v = .ref t ∧ SqT K H t [.str p.1, .int p.2.1, dv] ∧ FQ K H dv p.2.2
theorem RmAt.tk {K : PySem.W.Frag} {H H' : Hp} {v : V} {p : RM} (h : RmAt K H v p) (t : TK K H H') : RmAt K H' v p := by
  obtain ⟨a, j, e, h1, h2⟩ := h
  exact ⟨a, j, e, t _ _ h1, h2.tk t⟩
/-- a mould that a row can have -/
structure RmOk (z : RM) : Prop where
  nm : Nm z.1
  r0 : 1 ≤ z.2.1
  r1 : z.2.1 ≤ 1000000
  d0 : 0 ≤ z.2.2
  d1 : z.2.2 < 1
  dd : z.2.2.den ≤ 12
def StOf (st : Str → Mo) (rs : List RM) : Prop := ∀ r ∈ rs, st r.1 = mo0 r.2.1 r.2.2
/-- the attributes of a row, as they are stored -/
def rfs (k m : Addr) : List (Str × V) := [("kettles", .ref k), ("moulds", .ref m)]
def sp_SameRow_init (C CR : Addr) : Sp := fun vs H Q _ => ∃ (x dx r dr k m : Addr), vs = [.ref x, .ref r] ∧ H x = some (.ins C dx []) ∧ H r = some (.ins CR dr (rfs k m)) ∧ ∀ H', Fr x H H' → (∃ o, H' x = some o ∧ Chg o) → Q .non H'
def sp_Moulds_init (K : PySem.W.Frag) (CO CM CR : Addr) : Sp := fun vs H Q _ => ∃ (p dx r dr k m : Addr) (xs : List V) (rs : List RM), vs = [.ref p, .ref r] ∧ H p = some (.ins CO dx []) ∧ H r = some (.ins CR dr (rfs k m)) ∧ SqT K H m xs ∧ xs.length = rs.length ∧ (∀ (i : Nat) (v : V) (z : RM), xs[i]? = some v → rs[i]? = some z → RmAt K H v z) ∧ (rs.map (·.1)).Nodup ∧ rs.length ≤ 1000 ∧
  ∀ A st H', A.p = p → MouldsAt K CO CM H' A (rs.map (·.1)) st 0 0 [] → StOf st rs → Off K (· = p) H H' → (∀ a, A.R (rs.map (·.1)) a → a = p ∨ Nw H a) → Nw H A.t → Q .non H'
/-! the law's own book of moulds -/
structure LAd where
  m : Addr
  rm : Addr
  dp : Addr
  sg : Addr
  wt : Addr
  dr : Addr
  lv : Addr
  s : Str → Addr
  /-- the order of its words: as a copy has them -/
  o : Bool
def LAd.R (A : LAd) (nms : List Str) : Addr → Prop := fun a => a = A.m ∨ a = A.sg ∨ a = A.wt ∨ a = A.dr ∨ a = A.lv ∨ ∃ x ∈ nms, a = A.s x
/-- how much of the sugar that was poured is in it -/
def Mo.left (m : Mo) : Rat := if m.cur = true then 1 - m.drip else 1
def mkv (A : LAd) (vv : V) : List (Key × V) := match A.o with
  | false => [(kN "room", .ref A.rm), (kN "drip", .ref A.dp), (kN "sugar", .ref A.sg), (kN "water", .ref A.wt), (kN "dry", .ref A.dr), (kN "vat", vv), (kN "loaves", .ref A.lv)]
  | true => [(kN "room", .ref A.rm), (kN "drip", .ref A.dp), (kN "water", .ref A.wt), (kN "dry", .ref A.dr), (kN "sugar", .ref A.sg), (kN "vat", vv), (kN "loaves", .ref A.lv)]
/-- the sugar of one mould, by strikes -/
def SugAt (K : PySem.W.Frag) (H : Hp) (a : Addr) (m : Mo) : Prop := ∃ f : Int → V, H a = some (.dK (byK kI m.ks f)) ∧ ∀ k ∈ m.ks, FQ K H (f k) (m.q k * m.left)
structure LawAt (K : PySem.W.Frag) (H : Hp) (A : LAd) (nms : List Str) (st : Str → Mo) (vs vw : Rat) (lds : List PyData) : Prop where
  m : ∃ vv, H A.m = some (.dK (mkv A vv)) ∧ JQ K H vv vs vw
  rm : ∃ f, Rd H A.rm (.dK (byK kN nms f)) ∧ ∀ x ∈ nms, FQ K H (f x) ((st x).room : Rat)
  dp : ∃ f, Rd H A.dp (.dK (byK kN nms f)) ∧ ∀ x ∈ nms, FQ K H (f x) (st x).drip
  sg : H A.sg = some (.dK (byK kN nms fun x => .ref (A.s x)))
  sx : ∀ x ∈ nms, SugAt K H (A.s x) (st x)
  wt : ∃ f, H A.wt = some (.dK (byK kN nms f)) ∧ ∀ x ∈ nms, FQ K H (f x) (st x).w
  dr : H A.dr = some (.dK (byK kN nms fun x => .bl (st x).cur))
  lv : ∃ lvs, H A.lv = some (.lst lvs) ∧ lvs.length ≤ 50000 ∧ DtuAll K H 5 lvs lds
  si : ∀ x ∈ nms, ∀ y ∈ nms, A.s x = A.s y → x = y
  nd : [A.m, A.rm, A.dp, A.sg, A.wt, A.dr].Nodup
  sn : ∀ x ∈ nms, A.s x ∉ [A.m, A.rm, A.dp, A.sg, A.wt, A.dr]
  ln : nms.length ≤ 50000
section
variable {K : PySem.W.Frag} {H H' : Hp} {A : LAd} {nms : List Str} {st st' : Str → Mo} {vs vw : Rat} {lds : List PyData} {R : Addr → Prop}
theorem SugAt.off {a : Addr} {m : Mo} (h : SugAt K H a m) (o : Off K R H H') (n : ¬ R a) : SugAt K H' a m := by
  obtain ⟨f, h1, h2⟩ := h
  exact ⟨f, o.dK n h1, fun k hk => (h2 k hk).tk o.tk⟩
theorem LawAt.off (h : LawAt K H A nms st vs vw lds) (o : Off K R H H') (n : ∀ a, A.R nms a → ¬ R a) (n1 : ¬ R A.rm) (n2 : ¬ R A.dp) : LawAt K H' A nms st vs vw lds := by
  obtain ⟨⟨vv, h1, h2⟩, ⟨f, h3, h4⟩, ⟨g, h5, h6⟩, h7, h8, ⟨w, h9, h10⟩, h11, ⟨l, h12, h13, h14⟩, si, nd, sn, ln⟩ := h
  exact ⟨⟨vv, o.dK (n _ (.inl rfl)) h1, h2.tk o.tk⟩, ⟨f, o.rd n1 h3 (fun _ z => by cases z), fun x hx => (h4 x hx).tk o.tk⟩, ⟨g, o.rd n2 h5 (fun _ z => by cases z), fun x hx => (h6 x hx).tk o.tk⟩, o.dK (n _ (.inr (.inl rfl))) h7, fun x hx => (h8 x hx).off o (n _ (.inr (.inr (.inr (.inr (.inr ⟨x, hx, rfl⟩)))))), ⟨w, o.dK (n _ (.inr (.inr (.inl rfl)))) h9, fun x hx => (h10 x hx).tk o.tk⟩, o.dK (n _ (.inr (.inr (.inr (.inl rfl))))) h11, ⟨l, o.lst (n _ (.inr (.inr (.inr (.inr (.inl rfl)))))) h12, h13, h14.tk o.tk⟩, si, nd, sn, ln⟩
theorem LawAt.same (h : LawAt K H A nms st vs vw lds) (s : Same H H') : LawAt K H' A nms st vs vw lds := h.off (R := fun _ => False) (.same s) (fun _ _ => id) id id
theorem LawAt.there (h : LawAt K H A nms st vs vw lds) {a : Addr} (r : A.R nms a) : ∃ o, H a = some o ∧ Chg o := by
  obtain ⟨⟨vv, h1, h2⟩, ⟨f, h3, h4⟩, ⟨g, h5, h6⟩, h7, h8, ⟨w, h9, h10⟩, h11, ⟨l, h12, h13, h14⟩, si, nd, sn, ln⟩ := h
  rcases r with rfl | rfl | rfl | rfl | rfl | ⟨x, hx, rfl⟩
  · exact ⟨_, h1, .dK⟩
  · exact ⟨_, h7, .dK⟩
  · exact ⟨_, h9, .dK⟩
  · exact ⟨_, h11, .dK⟩
  · exact ⟨_, h12, .lst⟩
  · obtain ⟨f, e, _⟩ := h8 x hx
    exact ⟨_, e, .dK⟩
theorem LawAt.congr (h : LawAt K H A nms st vs vw lds) (e : ∀ x ∈ nms, st x = st' x) : LawAt K H A nms st' vs vw lds := by
  obtain ⟨h1, ⟨f, h3, h4⟩, ⟨g, h5, h6⟩, h7, h8, ⟨w, h9, h10⟩, h11, h12, si, nd, sn, ln⟩ := h
  refine ⟨h1, ⟨f, h3, fun x hx => e x hx ▸ h4 x hx⟩, ⟨g, h5, fun x hx => e x hx ▸ h6 x hx⟩, h7, fun x hx => e x hx ▸ h8 x hx, ⟨w, h9, fun x hx => e x hx ▸ h10 x hx⟩, ?_, h12, si, nd, sn, ln⟩
  rw [h11, byK_congr fun x hx => by rw [e x hx]]
theorem LawAt.rebuild (h : LawAt K H A nms st vs vw lds) {x : Str} (hx : x ∈ nms) {m : Mo} {vs2 vw2 : Rat} (o : Off K (fun a => a = A.s x ∨ a = A.wt ∨ a = A.dr ∨ a = A.m) H H') (hm : ∃ vv, H' A.m = some (.dK (mkv A vv)) ∧ JQ K H' vv vs2 vw2) (hs : SugAt K H' (A.s x) m)
    (hw : ∃ f, H' A.wt = some (.dK (byK kN nms f)) ∧ ∀ y ∈ nms, FQ K H' (f y) (set1 st x m y).w) (hd : H' A.dr = some (.dK (byK kN nms fun y => .bl (set1 st x m y).cur))) (e1 : m.room = (st x).room) (e2 : m.drip = (st x).drip) : LawAt K H' A nms (set1 st x m) vs2 vw2 lds := by
  obtain ⟨⟨vv, h1, h2⟩, ⟨f, h3, h4⟩, ⟨g, h5, h6⟩, h7, h8, ⟨w, h9, h10⟩, h11, ⟨l, h12, h13, h14⟩, si, nd, sn, ln⟩ := h
  have nx := sn x hx
  simp only [List.mem_cons, List.not_mem_nil, or_false, not_or] at nx
  simp only [List.nodup_cons, List.mem_cons, List.not_mem_nil, or_false, not_or, List.nodup_nil, and_true, not_false_iff] at nd
  have nd0 := nd
  obtain ⟨⟨a1, a2, a3, a4, a5⟩, ⟨b1, b2, b3, b4⟩, ⟨c1, c2, c3⟩, ⟨d1, d2⟩, e5⟩ := nd
  obtain ⟨x1, x2, x3, x4, x5, x6⟩ := nx
  have ro : ∀ y, (set1 st x m y).room = (st y).room := fun y => by
    by_cases e : y = x
    · rw [e, set1_same, e1]
    · rw [set1_ne e]
  have di : ∀ y, (set1 st x m y).drip = (st y).drip := fun y => by
    by_cases e : y = x
    · rw [e, set1_same, e2]
    · rw [set1_ne e]
  refine ⟨hm, ⟨f, o.rd (fun z => ?_) h3 (fun _ z => by cases z), fun y hy => by rw [ro]; exact (h4 y hy).tk o.tk⟩, ⟨g, o.rd (fun z => ?_) h5 (fun _ z => by cases z), fun y hy => by rw [di]; exact (h6 y hy).tk o.tk⟩, o.dK (fun z => ?_) h7, fun y hy => ?_, hw, hd, ⟨l, o.lst (fun z => ?_) h12, h13, h14.tk o.tk⟩, si, by
    simp only [List.nodup_cons, List.mem_cons, List.not_mem_nil, or_false, not_or, List.nodup_nil, and_true, not_false_iff]
    exact nd0, sn, ln⟩
  · rcases z with z | z | z | z
    · exact x2 z.symm
    · exact b3 z
    · exact b4 z
    · exact a1 z.symm
  · rcases z with z | z | z | z
    · exact x3 z.symm
    · exact c2 z
    · exact c3 z
    · exact a2 z.symm
  · rcases z with z | z | z | z
    · exact x4 z.symm
    · exact d1 z
    · exact d2 z
    · exact a3 z.symm
  · by_cases e : y = x
    · subst e
      rw [set1_same]
      exact hs
    · rw [set1_ne e]
      have ny := sn y hy
      simp only [List.mem_cons, List.not_mem_nil, or_false, not_or] at ny
      refine (h8 y hy).off o (fun z => ?_)
      rcases z with z | z | z | z
      · exact e (si y hy x hx z)
      · exact ny.2.2.2.2.1 z
      · exact ny.2.2.2.2.2 z
      · exact ny.1 z
  · obtain ⟨fx, k1, _⟩ := h8 x hx
    rcases z with z | z | z | z
    · rw [z, k1] at h12; cases h12
    · rw [z, h9] at h12; cases h12
    · rw [z, h11] at h12; cases h12
    · rw [z, h1] at h12; cases h12
theorem LawAt.lockRm (h : LawAt K H A nms st vs vw lds) {kvs : List (Key × V)} (e : H A.rm = some (.dK kvs)) (od : Obj) : kvs.map (·.1) = nms.map kN ∧ LawAt K (upd H A.rm (.frz od (.dK kvs))) A nms st vs vw lds := by
  have o : Off K (· = A.rm) H (upd H A.rm (.frz od (.dK kvs))) := .put e .dK rfl
  obtain ⟨⟨vv, h1, h2⟩, ⟨f, h3, h4⟩, ⟨g, h5, h6⟩, h7, h8, ⟨w, h9, h10⟩, h11, ⟨l, h12, h13, h14⟩, si, nd, sn, ln⟩ := h
  have nd0 := nd
  simp only [List.nodup_cons, List.mem_cons, List.not_mem_nil, or_false, not_or, List.nodup_nil, and_true, not_false_iff] at nd
  obtain ⟨⟨a1, a2, a3, a4, a5⟩, ⟨b1, b2, b3, b4⟩, ⟨c1, c2, c3⟩, ⟨d1, d2⟩, e5⟩ := nd
  have ek : kvs = byK kN nms f := by
    rcases h3 with h3 | ⟨ob, h3⟩
    · rw [e] at h3
      cases h3
      rfl
    · rw [e] at h3
      cases h3
  subst ek
  refine ⟨byK_keys, ⟨vv, o.dK a1 h1, h2.tk o.tk⟩, ⟨f, .inr ⟨od, upd_same⟩, fun x hx => (h4 x hx).tk o.tk⟩, ⟨g, o.rd (Ne.symm b1) h5 (fun _ z => by cases z), fun x hx => (h6 x hx).tk o.tk⟩, o.dK (Ne.symm b2) h7, fun x hx => (h8 x hx).off o (fun z => sn x hx (by rw [z]; simp)), ⟨w, o.dK (Ne.symm b3) h9, fun x hx => (h10 x hx).tk o.tk⟩, o.dK (Ne.symm b4) h11, ⟨l, o.lst (fun z => by rw [z, e] at h12; cases h12) h12, h13, h14.tk o.tk⟩, si, nd0, sn, ln⟩
/-- one mould more -/
theorem LawAt.grow (h : LawAt K H A nms st vs vw lds) {x : Str} (hx : x ∉ nms) (l9 : nms.length < 50000) {r0 : Int} {d : Rat} {g : Addr} {v1 v2 v3 : V} {fr fd fw : Str → V} (hr : H A.rm = some (.dK (byK kN nms fr))) (hrq : ∀ y ∈ nms, FQ K H (fr y) ((st y).room : Rat)) (hd : H A.dp = some (.dK (byK kN nms fd))) (hdq : ∀ y ∈ nms, FQ K H (fd y) (st y).drip)
    (hwq : ∀ y ∈ nms, FQ K H (fw y) (st y).w) (ng : H g = none) (o : Off K (fun a => a = A.rm ∨ a = A.dp ∨ a = A.sg ∨ a = A.wt ∨ a = A.dr) H H')
    (kr : H' A.rm = some (.dK (byK kN (nms ++ [x]) (set1 fr x v1)))) (q1 : FQ K H' v1 (r0 : Rat)) (kd : H' A.dp = some (.dK (byK kN (nms ++ [x]) (set1 fd x v2)))) (q2 : FQ K H' v2 d)
    (kg : H' A.sg = some (.dK (byK kN (nms ++ [x]) (set1 (fun y => .ref (A.s y)) x (.ref g))))) (kgg : H' g = some (.dK [])) (kw : H' A.wt = some (.dK (byK kN (nms ++ [x]) (set1 fw x v3)))) (q3 : FQ K H' v3 0)
    (ky : H' A.dr = some (.dK (byK kN (nms ++ [x]) (set1 (fun y => .bl (st y).cur) x (.bl false))))) : LawAt K H' { A with s := set1 A.s x g } (nms ++ [x]) (set1 st x (mo0 r0 d)) vs vw lds := by
  obtain ⟨⟨vv, h1, h2⟩, _, _, h7, h8, ⟨w, h9, h10⟩, h11, ⟨l, h12, h13, h14⟩, si, nd, sn, ln⟩ := h
  have nd0 := nd
  simp only [List.nodup_cons, List.mem_cons, List.not_mem_nil, or_false, not_or, List.nodup_nil, and_true, not_false_iff] at nd
  obtain ⟨⟨a1, a2, a3, a4, a5⟩, ⟨b1, b2, b3, b4⟩, ⟨c1, c2, c3⟩, ⟨d1, d2⟩, e5⟩ := nd
  have mem : ∀ y, y ∈ nms ++ [x] → y = x ∨ (y ≠ x ∧ y ∈ nms) := fun y hy => by
    rcases List.mem_append.mp hy with h | h
    · exact .inr ⟨fun e => hx (e ▸ h), h⟩
    · exact .inl (List.mem_singleton.mp h)
  have gs : ∀ y ∈ nms, g ≠ A.s y := fun y hy z => by
    obtain ⟨fx, k1, _⟩ := h8 y hy
    rw [← z, ng] at k1
    cases k1
  have gn : ∀ {b : Addr} {kvs : List (Key × V)}, H b = some (.dK kvs) → g ≠ b := fun k z => by rw [← z, ng] at k; cases k
  refine ⟨⟨vv, o.dK (fun z => ?_) h1, h2.tk o.tk⟩, ⟨_, .inl kr, fun y hy => ?_⟩, ⟨_, .inl kd, fun y hy => ?_⟩, ?_, fun y hy => ?_, ⟨_, kw, fun y hy => ?_⟩, ?_, ⟨l, o.lst (fun z => ?_) h12, h13, h14.tk o.tk⟩, fun y hy u hu e => ?_, nd0, fun y hy => ?_, by rw [List.length_append, List.length_singleton]; omega⟩
  · rcases z with z | z | z | z | z
    · exact a1 z
    · exact a2 z
    · exact a3 z
    · exact a4 z
    · exact a5 z
  · rcases mem y hy with e | ⟨e, hm⟩
    · rw [e, set1_same, set1_same]; exact q1
    · rw [set1_ne e, set1_ne e]; exact (hrq y hm).tk o.tk
  · rcases mem y hy with e | ⟨e, hm⟩
    · rw [e, set1_same, set1_same]; exact q2
    · rw [set1_ne e, set1_ne e]; exact (hdq y hm).tk o.tk
  · rw [kg]
    congr 2
    refine byK_congr fun y _ => ?_
    show set1 (fun y => V.ref (A.s y)) x (.ref g) y = .ref (set1 A.s x g y)
    by_cases e : y = x
    · rw [e, set1_same, set1_same]
    · rw [set1_ne e, set1_ne e]
  · show SugAt K H' (set1 A.s x g y) (set1 st x (mo0 r0 d) y)
    rcases mem y hy with e | ⟨e, hm⟩
    · rw [e, set1_same, set1_same]
      exact ⟨fun _ => .non, kgg, fun k hk => absurd hk List.not_mem_nil⟩
    · rw [set1_ne e, set1_ne e]
      have ny := sn y hm
      simp only [List.mem_cons, List.not_mem_nil, or_false, not_or] at ny
      refine (h8 y hm).off o fun z => ?_
      rcases z with z | z | z | z | z
      · exact ny.2.1 z
      · exact ny.2.2.1 z
      · exact ny.2.2.2.1 z
      · exact ny.2.2.2.2.1 z
      · exact ny.2.2.2.2.2 z
  · rcases mem y hy with e | ⟨e, hm⟩
    · rw [e, set1_same, set1_same]; exact q3
    · rw [set1_ne e, set1_ne e]; exact (hwq y hm).tk o.tk
  · rw [ky]
    congr 2
    refine byK_congr fun y _ => ?_
    by_cases e : y = x
    · rw [e, set1_same, set1_same] <;> rfl
    · rw [set1_ne e, set1_ne e]
  · rcases z with z | z | z | z | z
    · rw [z, hr] at h12; cases h12
    · rw [z, hd] at h12; cases h12
    · rw [z, h7] at h12; cases h12
    · rw [z, h9] at h12; cases h12
    · rw [z, h11] at h12; cases h12
  · change set1 A.s x g y = set1 A.s x g u at e
    rcases mem y hy with e1 | ⟨e1, hm⟩
    · rcases mem u hu with e2 | ⟨e2, hm2⟩
      · rw [e1, e2]
      · rw [e1, set1_same, set1_ne e2] at e
        exact absurd e (gs u hm2)
    · rcases mem u hu with e2 | ⟨e2, hm2⟩
      · rw [e2, set1_same, set1_ne e1] at e
        exact absurd e.symm (gs y hm)
      · rw [set1_ne e1, set1_ne e2] at e
        exact si y hm u hm2 e
  · show set1 A.s x g y ∉ [A.m, A.rm, A.dp, A.sg, A.wt, A.dr]
    rcases mem y hy with e | ⟨e, hm⟩
    · rw [e, set1_same]
      intro h
      simp only [List.mem_cons, List.not_mem_nil, or_false] at h
      rcases h with z | z | z | z | z | z
      · exact gn h1 z
      · exact gn hr z
      · exact gn hd z
      · exact gn h7 z
      · exact gn h9 z
      · exact gn h11 z
    · rw [set1_ne e]
      exact sn y hm
/-- one mould's sugar thrown away, one loaf more -/
theorem LawAt.anew (h : LawAt K H A nms st vs vw lds) {x : Str} (hx : x ∈ nms) {m : Mo} {g : Addr} {d : PyData} (ng : H g = none) (o : Off K (fun a => a = A.sg ∨ a = A.dr ∨ a = A.lv) H H') (hsg : H' A.sg = some (.dK (byK kN nms fun y => .ref (set1 A.s x g y)))) (hs : SugAt K H' g m)
    (hd : H' A.dr = some (.dK (byK kN nms fun y => .bl (set1 st x m y).cur))) (hl : ∃ lvs, H' A.lv = some (.lst lvs) ∧ lvs.length ≤ 50000 ∧ DtuAll K H' 5 lvs (lds ++ [d])) (e1 : m.room = (st x).room) (e2 : m.drip = (st x).drip) (e3 : m.w = (st x).w) : LawAt K H' { A with s := set1 A.s x g } nms (set1 st x m) vs vw (lds ++ [d]) := by
  obtain ⟨⟨vv, h1, h2⟩, ⟨f, h3, h4⟩, ⟨gf, h5, h6⟩, h7, h8, ⟨w, h9, h10⟩, h11, ⟨l, h12, h13, h14⟩, si, nd, sn, ln⟩ := h
  have nd0 := nd
  simp only [List.nodup_cons, List.mem_cons, List.not_mem_nil, or_false, not_or, List.nodup_nil, and_true, not_false_iff] at nd
  obtain ⟨⟨a1, a2, a3, a4, a5⟩, ⟨b1, b2, b3, b4⟩, ⟨c1, c2, c3⟩, ⟨d1, d2⟩, e5⟩ := nd
  have ro : ∀ y, (set1 st x m y).room = (st y).room := fun y => by
    by_cases e : y = x
    · rw [e, set1_same, e1]
    · rw [set1_ne e]
  have di : ∀ y, (set1 st x m y).drip = (st y).drip := fun y => by
    by_cases e : y = x
    · rw [e, set1_same, e2]
    · rw [set1_ne e]
  have wa : ∀ y, (set1 st x m y).w = (st y).w := fun y => by
    by_cases e : y = x
    · rw [e, set1_same, e3]
    · rw [set1_ne e]
  have nl : ∀ {b : Addr} {kvs : List (Key × V)}, Rd H b (.dK kvs) → b ≠ A.lv := fun k z => by
    rcases k with k | ⟨ob, k⟩ <;> (rw [z, h12] at k; cases k)
  have gs : ∀ y ∈ nms, g ≠ A.s y := fun y hy z => by
    obtain ⟨fx, k1, _⟩ := h8 y hy
    rw [← z, ng] at k1
    cases k1
  have gn : ∀ {b : Addr} {kvs : List (Key × V)}, Rd H b (.dK kvs) → g ≠ b := fun k z => by
    rcases k with k | ⟨ob, k⟩ <;> (rw [← z, ng] at k; cases k)
  refine ⟨⟨vv, o.dK (fun z => ?_) h1, h2.tk o.tk⟩, ⟨f, o.rd (fun z => ?_) h3 (fun _ z => by cases z), fun y hy => by rw [ro]; exact (h4 y hy).tk o.tk⟩, ⟨gf, o.rd (fun z => ?_) h5 (fun _ z => by cases z), fun y hy => by rw [di]; exact (h6 y hy).tk o.tk⟩, hsg, fun y hy => ?_, ⟨w, o.dK (fun z => ?_) h9, fun y hy => by rw [wa]; exact (h10 y hy).tk o.tk⟩, hd, hl, fun y hy z hz e => ?_, nd0, fun y hy => ?_, ln⟩
  · rcases z with z | z | z
    · exact a3 z
    · exact a5 z
    · exact nl (.inl h1) z
  · rcases z with z | z | z
    · exact b2 z
    · exact b4 z
    · exact nl h3 z
  · rcases z with z | z | z
    · exact c1 z
    · exact c3 z
    · exact nl h5 z
  · show SugAt K H' (set1 A.s x g y) (set1 st x m y)
    by_cases e : y = x
    · subst e
      rw [set1_same, set1_same]
      exact hs
    · rw [set1_ne e, set1_ne e]
      have ny := sn y hy
      simp only [List.mem_cons, List.not_mem_nil, or_false, not_or] at ny
      obtain ⟨fy, k1, _⟩ := h8 y hy
      refine (h8 y hy).off o (fun z => ?_)
      rcases z with z | z | z
      · exact ny.2.2.2.1 z
      · exact ny.2.2.2.2.2 z
      · exact nl (.inl k1) z
  · rcases z with z | z | z
    · exact d1 z.symm
    · exact e5 z
    · exact nl (.inl h9) z
  · change set1 A.s x g y = set1 A.s x g z at e
    by_cases e1 : y = x
    · by_cases e2 : z = x
      · rw [e1, e2]
      · rw [e1, set1_same, set1_ne e2] at e
        exact absurd e (gs z hz)
    · by_cases e2 : z = x
      · rw [e2, set1_same, set1_ne e1] at e
        exact absurd e.symm (gs y hy)
      · rw [set1_ne e1, set1_ne e2] at e
        exact si y hy z hz e
  · show set1 A.s x g y ∉ [A.m, A.rm, A.dp, A.sg, A.wt, A.dr]
    by_cases e : y = x
    · rw [e, set1_same]
      intro h
      simp only [List.mem_cons, List.not_mem_nil, or_false] at h
      rcases h with z | z | z | z | z | z
      · exact gn (.inl h1) z
      · exact gn h3 z
      · exact gn h5 z
      · exact gn (.inl h7) z
      · exact gn (.inl h9) z
      · exact gn (.inl h11) z
    · rw [set1_ne e]
      exact sn y hy
end
section
variable {H : Hp} {A : LAd} {vv : V}
theorem mkv_small {B : LAd} {x : V} : (mkv B x).length < sizeLine := by
  unfold mkv
  cases B.o
  · show 7 < sizeLine
    decide
  · show 7 < sizeLine
    decide
theorem g_room (h : H A.m = some (.dK (mkv A vv))) : DGet H A.m (.str "room") (some (.ref A.rm)) := .inl ⟨_, kN "room", .inl h, rfl, by unfold mkv; cases A.o <;> rfl⟩
theorem g_drip (h : H A.m = some (.dK (mkv A vv))) : DGet H A.m (.str "drip") (some (.ref A.dp)) := .inl ⟨_, kN "drip", .inl h, rfl, by unfold mkv; cases A.o <;> rfl⟩
theorem g_sugar (h : H A.m = some (.dK (mkv A vv))) : DGet H A.m (.str "sugar") (some (.ref A.sg)) := .inl ⟨_, kN "sugar", .inl h, rfl, by unfold mkv; cases A.o <;> rfl⟩
theorem g_water (h : H A.m = some (.dK (mkv A vv))) : DGet H A.m (.str "water") (some (.ref A.wt)) := .inl ⟨_, kN "water", .inl h, rfl, by unfold mkv; cases A.o <;> rfl⟩
theorem g_dry (h : H A.m = some (.dK (mkv A vv))) : DGet H A.m (.str "dry") (some (.ref A.dr)) := .inl ⟨_, kN "dry", .inl h, rfl, by unfold mkv; cases A.o <;> rfl⟩
theorem g_vat (h : H A.m = some (.dK (mkv A vv))) : DGet H A.m (.str "vat") (some vv) := .inl ⟨_, kN "vat", .inl h, rfl, by unfold mkv; cases A.o <;> rfl⟩
theorem g_loaves (h : H A.m = some (.dK (mkv A vv))) : DGet H A.m (.str "loaves") (some (.ref A.lv)) := .inl ⟨_, kN "loaves", .inl h, rfl, by unfold mkv; cases A.o <;> rfl⟩
theorem p_vat {vv2 : V} (h : H A.m = some (.dK (mkv A vv))) : DPut H A.m (.str "vat") vv2 (upd H A.m (.dK (mkv A vv2))) := .inl ⟨_, kN "vat", h, rfl, mkv_small, by congr 2; unfold mkv; cases A.o <;> rfl⟩
end
def sp_l_new (K : PySem.W.Frag) (CR : Addr) : Sp := fun vs H Q _ => ∃ (r dr k m : Addr) (xs : List V) (rs : List RM), vs = [.ref r] ∧ H r = some (.ins CR dr (rfs k m)) ∧ SqT K H m xs ∧ xs.length = rs.length ∧ (∀ (i : Nat) (v : V) (z : RM), xs[i]? = some v → rs[i]? = some z → RmAt K H v z) ∧ (rs.map (·.1)).Nodup ∧ rs.length ≤ 1000 ∧
  ∀ A st H', LawAt K H' A (rs.map (·.1)) st 0 0 [] → (∃ kvs, H' A.rm = some (.dK kvs)) → StOf st rs → Off K (fun _ => False) H H' → (∀ a, A.R (rs.map (·.1)) a → Nw H a) → Nw H A.rm → Nw H A.dp → Q (.ref A.m) H'
def sp_l_inside (K : PySem.W.Frag) : Sp := fun vs H Q _ => ∃ (A : LAd) (nms : List Str) (st : Str → Mo) (v1 v2 : Rat) (lds : List PyData) (x : Str), vs = [.ref A.m, .str x] ∧ LawAt K H A nms st v1 v2 lds ∧ x ∈ nms ∧ AddOk ((st x).ks.map fun k => (st x).q k * (st x).left) ∧ (∀ k ∈ (st x).ks, Big ((st x).q k * (st x).left)) ∧
  ∀ a H', Same H H' → JuQ K H' a ((st x).tot * (st x).left) (st x).w → Q (.ref a) H'
/-- one by a fraction -/
theorem inv_parts {W : Rat} (h : 0 < W) : ((1 / W).num = (W.den : Int)) ∧ (((1 / W).den : Int) = W.num) := by
  have hn : 0 < W.num := num_pos.mpr h
  have lo := rat_low W
  have lo2 : IsLow (W.den : Int) W.num := ⟨hn, by rw [Nat.gcd_comm]; exact lo.cop⟩
  have e : rq ((W.den : Int)) W.num = 1 / W := by
    have k := rq_div 1 W
    have e1 : (1 : Rat).num = 1 := rfl
    have e2 : ((1 : Rat).den : Int) = 1 := rfl
    rw [e1, e2, Int.one_mul, Int.one_mul] at k
    exact k
  have k := rq_low (t := (W.den : Int)) (b := W.num) (by omega)
  rw [low_id lo2, e] at k
  exact ⟨(congrArg Prod.fst k).symm, (congrArg Prod.snd k).symm⟩
theorem inv_big {W : Rat} (h : 0 < W) (b : Big W) : Big (1 / W) := by
  obtain ⟨e1, e2⟩ := inv_parts h
  exact ⟨by rw [e1]; exact b.2, by rw [e2]; exact b.1⟩
theorem share_eq {q t l : Rat} (ht : t ≠ 0) (hl : l ≠ 0) : q * l * (1 / (t * l)) = q / t := by
  have h : t * l ≠ 0 := fun z => (Rat.mul_eq_zero.mp z).elim ht hl
  grind
/-- what the law reckons with fits, and is what the program holds -/
structure Mo.Fit2 (m : Mo) : Prop extends m.Fit where
  add2 : AddOk (m.ks.map fun k => m.q k * m.left)
  big2 : ∀ k ∈ m.ks, Big (m.q k * m.left)
  bt : Big (m.tot * m.left)
  lf : m.left ≠ 0
  stay : Big (1 - m.drip)
  pos : m.ks ≠ [] → 0 < m.tot * m.left
  sum : m.s = m.tot * m.left
def sp_l_bears (K : PySem.W.Frag) : Sp := fun vs H Q _ => ∃ (A : LAd) (nms : List Str) (st : Str → Mo) (v1 v2 : Rat) (lds : List PyData) (x : Str), vs = [.ref A.m, .str x] ∧ LawAt K H A nms st v1 v2 lds ∧ x ∈ nms ∧ (st x).Fit2 ∧ ∀ a H', Same H H' → Dtu K H' 4 (.ref a) (st x).shd → Q (.ref a) H'
def refD (nm : Str) (x : Str) : PyData := .tuple [.str "refused", .str nm, .str x]
def sp_l_drain (K : PySem.W.Frag) : Sp := fun vs H Q _ => ∃ (A : LAd) (nms : List Str) (st : Str → Mo) (v1 v2 : Rat) (lds : List PyData) (x : Str), vs = [.ref A.m, .str x] ∧ LawAt K H A nms st v1 v2 lds ∧ PyData.canLay0 (.str x) = true ∧ (x ∈ nms → (st x).Fit2) ∧ Big v1 ∧ Big v2 ∧
  (x ∉ nms → ∀ a H', Same H H' → Dtu K H' 3 (.ref a) (refD "NoMould" x) → Q (.ref a) H') ∧ (x ∈ nms → (st x).ks = [] → ∀ a H', Same H H' → Dtu K H' 3 (.ref a) (refD "Empty" x) → Q (.ref a) H') ∧ (x ∈ nms → (st x).ks ≠ [] → (st x).cur = true → ∀ a H', Same H H' → Dtu K H' 3 (.ref a) (refD "Cured" x) → Q (.ref a) H') ∧
  (x ∈ nms → (st x).ks ≠ [] → (st x).cur = false → ∀ a H', LawAt K H' A nms (set1 st x (st x).drained) (v1 + (st x).s * (st x).drip) (v2 + (st x).w) lds → JuQ K H' a ((st x).s * (st x).drip) (st x).w → Off K (A.R nms) H H' → Q (.ref a) H')
def sp_l_knock (K : PySem.W.Frag) : Sp := fun vs H Q _ => ∃ (A : LAd) (nms : List Str) (st : Str → Mo) (v1 v2 : Rat) (lds : List PyData) (x : Str), vs = [.ref A.m, .str x] ∧ LawAt K H A nms st v1 v2 lds ∧ PyData.canLay0 (.str x) = true ∧ (x ∈ nms → (st x).Fit2) ∧ (x ∈ nms → (st x).cur = true → (st x).w = 0) ∧ lds.length < 50000 ∧
  (x ∉ nms → ∀ a H', Same H H' → Dtu K H' 3 (.ref a) (refD "NoMould" x) → Q (.ref a) H') ∧ (x ∈ nms → (st x).ks = [] → ∀ a H', Same H H' → Dtu K H' 3 (.ref a) (refD "Empty" x) → Q (.ref a) H') ∧ (x ∈ nms → (st x).ks ≠ [] → (st x).cur = false → ∀ a H', Same H H' → Dtu K H' 3 (.ref a) (refD "NotCured" x) → Q (.ref a) H') ∧
  (x ∈ nms → (st x).ks ≠ [] → (st x).cur = true → ∀ a g H', H g = none → LawAt K H' { A with s := set1 A.s x g } nms (set1 st x (st x).cleared) v1 v2 (lds ++ [loafD x (st x)]) → Dtu K H' 5 (.ref a) (.tuple [dq (st x).s, (st x).shd]) → Off K (A.R nms) H H' → Q (.ref a) H')
/-! the program's moulds beside the law's book, the box of draws: where each stands -/
def Dm (A : MAd) (B : LAd) (b : Addr) (nms : List Str) (a : Addr) : Prop := A.R nms a ∨ a = A.t ∨ B.R nms a ∨ a = B.rm ∨ a = B.dp ∨ a = b
structure W2 (K : PySem.W.Frag) (CO CM : Addr) (H0 H : Hp) (b : Addr) (n : Nat) (A : MAd) (B : LAd) (nms : List Str) (st stL : Str → Mo) (v1 v2 u1 u2 : Rat) (lds ldt : List PyData) : Prop where
  mo : MouldsAt K CO CM H A nms st v1 v2 lds
  la : LawAt K H B nms stL u1 u2 ldt
  bx : BoxAt H b n
  rm : ∃ kvs, H B.rm = some (.dK kvs)
  oH : Off K (fun _ => False) H0 H
  nw : ∀ a, Dm A B b nms a → Nw H0 a
  d1 : ∀ a, A.R nms a → ¬ B.R nms a ∧ a ≠ B.rm ∧ a ≠ B.dp ∧ a ≠ b
  d2 : ¬ B.R nms A.t ∧ A.t ≠ b ∧ A.t ≠ B.rm
  d3 : ∀ a, B.R nms a → a ≠ b
  d4 : B.rm ≠ b ∧ B.dp ≠ b
section
variable {K : PySem.W.Frag} {CO CM : Addr} {H0 H H' : Hp} {b : Addr} {n n' : Nat} {A : MAd} {B : LAd} {nms : List Str} {st stL st' : Str → Mo} {v1 v2 u1 u2 w1 w2 : Rat} {lds ldt ld' : List PyData} {R : Addr → Prop}
theorem rd_ex {a : Addr} {kvs : List (Key × V)} (h : Rd H a (.dK kvs)) : ∃ o, H a = some o ∧ ∀ q, o ≠ .tbl q := by
  rcases h with h | ⟨ob, h⟩
  · exact ⟨_, h, fun _ z => by cases z⟩
  · exact ⟨_, h, fun _ z => by cases z⟩
theorem LawAt.nrm (h : LawAt K H B nms st v1 v2 lds) : ¬ B.R nms B.rm ∧ ¬ B.R nms B.dp := by
  obtain ⟨_, ⟨f, h3, _⟩, ⟨g, h5, _⟩, _, _, _, _, ⟨l, h12, _⟩, _, nd, sn, _⟩ := h
  simp only [List.nodup_cons, List.mem_cons, List.not_mem_nil, or_false, not_or, List.nodup_nil, and_true, not_false_iff] at nd
  obtain ⟨⟨a1, a2, a3, a4, a5⟩, ⟨b1, b2, b3, b4⟩, ⟨c1, c2, c3⟩, ⟨d1, d2⟩, e5⟩ := nd
  have nl : ∀ {c : Addr} {kvs : List (Key × V)}, Rd H c (.dK kvs) → c ≠ B.lv := fun k z => by
    rcases k with k | ⟨ob, k⟩ <;> (rw [z, h12] at k; cases k)
  constructor
  · intro z
    rcases z with z | z | z | z | z | ⟨x, hx, z⟩
    · exact a1 z.symm
    · exact b2 z
    · exact b3 z
    · exact b4 z
    · exact nl h3 z
    · exact sn x hx (by rw [← z]; simp)
  · intro z
    rcases z with z | z | z | z | z | ⟨x, hx, z⟩
    · exact a2 z.symm
    · exact c1 z
    · exact c2 z
    · exact c3 z
    · exact nl h5 z
    · exact sn x hx (by rw [← z]; simp)
theorem W2.dom (h : W2 K CO CM H0 H b n A B nms st stL v1 v2 u1 u2 lds ldt) {a : Addr} (d : Dm A B b nms a) : ∃ o, H a = some o ∧ ∀ q, o ≠ .tbl q := by
  rcases d with d | d | d | d | d | d
  · obtain ⟨o, e, c⟩ := h.mo.there d
    exact ⟨o, e, c.b⟩
  · rw [d]; exact rd_ex h.mo.t
  · obtain ⟨o, e, c⟩ := h.la.there d
    exact ⟨o, e, c.b⟩
  · obtain ⟨f, e, _⟩ := h.la.rm
    rw [d]; exact rd_ex e
  · obtain ⟨f, e, _⟩ := h.la.dp
    rw [d]; exact rd_ex e
  · obtain ⟨xs, e⟩ := box_lst h.bx
    rw [d]; exact ⟨_, e, fun _ z => by cases z⟩
theorem W2.out (h : W2 K CO CM H0 H b n A B nms st stL v1 v2 u1 u2 lds ldt) {a : Addr} (k : Nw H a) : ¬ Dm A B b nms a := fun d => by
  obtain ⟨o, e, c⟩ := h.dom d
  obtain ⟨q, z⟩ := k o e
  exact c q z
theorem W2.keep (h : W2 K CO CM H0 H b n A B nms st stL v1 v2 u1 u2 lds ldt) (o : Off K R H H') (k : ∀ a, R a → ¬ Dm A B b nms a) (w : ∀ a, R a → Nw H0 a) : W2 K CO CM H0 H' b n A B nms st stL v1 v2 u1 u2 lds ldt := by
  have k' : ∀ a, Dm A B b nms a → ¬ R a := fun a d r => k a r d
  obtain ⟨kvs, e⟩ := h.rm
  exact ⟨h.mo.off o (fun a r => k' a (.inl r)) (k' _ (.inr (.inl rfl))), h.la.off o (fun a r => k' a (.inr (.inr (.inl r)))) (k' _ (.inr (.inr (.inr (.inl rfl))))) (k' _ (.inr (.inr (.inr (.inr (.inl rfl)))))), o.boxAt (k' _ (.inr (.inr (.inr (.inr (.inr rfl)))))) h.bx, ⟨kvs, o.dK (k' _ (.inr (.inr (.inr (.inl rfl))))) e⟩, h.oH.trans o (fun a r => .inr (w a r)), h.nw, h.d1, h.d2, h.d3, h.d4⟩
theorem W2.same (h : W2 K CO CM H0 H b n A B nms st stL v1 v2 u1 u2 lds ldt) (s : Same H H') : W2 K CO CM H0 H' b n A B nms st stL v1 v2 u1 u2 lds ldt := h.keep (R := fun _ => False) (.same s) (fun _ z => z.elim) (fun _ z => z.elim)
theorem W2.box (h : W2 K CO CM H0 H b n A B nms st stL v1 v2 u1 u2 lds ldt) (f : Fr b H H') (bx : BoxAt H' b n') : W2 K CO CM H0 H' b n' A B nms st stL v1 v2 u1 u2 lds ldt := by
  have o : Off K (· = b) H H' := .box h.bx f
  obtain ⟨kvs, e⟩ := h.rm
  exact ⟨h.mo.off o (fun a r => (h.d1 a r).2.2.2) h.d2.2.1, h.la.off o h.d3 h.d4.1 h.d4.2, bx, ⟨kvs, o.dK h.d4.1 e⟩, h.oH.trans o (fun a r => .inr (h.nw a (.inr (.inr (.inr (.inr (.inr r))))))), h.nw, h.d1, h.d2, h.d3, h.d4⟩
theorem W2.prog (h : W2 K CO CM H0 H b n A B nms st stL v1 v2 u1 u2 lds ldt) (o : Off K (A.R nms) H H') (m : MouldsAt K CO CM H' A nms st' w1 w2 ld') : W2 K CO CM H0 H' b n A B nms st' stL w1 w2 u1 u2 ld' ldt := by
  obtain ⟨kvs, e⟩ := h.rm
  exact ⟨m, h.la.off o (fun a r z => (h.d1 a z).1 r) (fun z => (h.d1 _ z).2.1 rfl) (fun z => (h.d1 _ z).2.2.1 rfl), o.boxAt (fun z => (h.d1 _ z).2.2.2 rfl) h.bx, ⟨kvs, o.dK (fun z => (h.d1 _ z).2.1 rfl) e⟩, h.oH.trans o (fun a r => .inr (h.nw a (.inl r))), h.nw, h.d1, h.d2, h.d3, h.d4⟩
theorem W2.law (h : W2 K CO CM H0 H b n A B nms st stL v1 v2 u1 u2 lds ldt) (o : Off K (B.R nms) H H') (l : LawAt K H' B nms st' w1 w2 ld') : W2 K CO CM H0 H' b n A B nms st st' v1 v2 w1 w2 lds ld' := by
  obtain ⟨kvs, e⟩ := h.rm
  exact ⟨h.mo.off o (fun a r => (h.d1 a r).1) h.d2.1, l, o.boxAt (fun z => h.d3 _ z rfl) h.bx, ⟨kvs, o.dK h.la.nrm.1 e⟩, h.oH.trans o (fun a r => .inr (h.nw a (.inr (.inr (.inl r))))), h.nw, h.d1, h.d2, h.d3, h.d4⟩
theorem W2.progk (h : W2 K CO CM H0 H b n A B nms st stL v1 v2 u1 u2 lds ldt) {x : Str} {g : Addr} (ng : H g = none) (o : Off K (A.R nms) H H') (m : MouldsAt K CO CM H' { A with g := set1 A.g x g } nms st' w1 w2 ld') : W2 K CO CM H0 H' b n { A with g := set1 A.g x g } B nms st' stL w1 w2 u1 u2 ld' ldt := by
  obtain ⟨kvs, e⟩ := h.rm
  have out := h.out (Nw.of ng)
  have nw0 : Nw H0 g := Nw.back h.oH id (.of ng)
  have rr : ∀ a, ({ A with g := set1 A.g x g } : MAd).R nms a → A.R nms a ∨ a = g := fun a r => by
    rcases r with r | r | ⟨y, hy, r | r⟩
    · exact .inl (.inl r)
    · exact .inl (.inr (.inl r))
    · exact .inl (.inr (.inr ⟨y, hy, .inl r⟩))
    · change a = set1 A.g x g y at r
      by_cases e : y = x
      · rw [e, set1_same] at r
        exact .inr r
      · rw [set1_ne e] at r
        exact .inl (.inr (.inr ⟨y, hy, .inr r⟩))
  refine ⟨m, h.la.off o (fun a r z => (h.d1 a z).1 r) (fun z => (h.d1 _ z).2.1 rfl) (fun z => (h.d1 _ z).2.2.1 rfl), o.boxAt (fun z => (h.d1 _ z).2.2.2 rfl) h.bx, ⟨kvs, o.dK (fun z => (h.d1 _ z).2.1 rfl) e⟩, h.oH.trans o (fun a r => .inr (h.nw a (.inl r))), fun a d => ?_, fun a r => ?_, h.d2, h.d3, h.d4⟩
  · rcases d with d | d | d
    · rcases rr a d with d | d
      · exact h.nw a (.inl d)
      · exact d ▸ nw0
    · exact h.nw a (.inr (.inl d))
    · exact h.nw a (.inr (.inr d))
  · rcases rr a r with r | r
    · exact h.d1 a r
    · subst r
      exact ⟨fun z => out (.inr (.inr (.inl z))), fun z => out (.inr (.inr (.inr (.inl z)))), fun z => out (.inr (.inr (.inr (.inr (.inl z))))), fun z => out (.inr (.inr (.inr (.inr (.inr z)))))⟩
theorem W2.lawk (h : W2 K CO CM H0 H b n A B nms st stL v1 v2 u1 u2 lds ldt) {x : Str} {g : Addr} (ng : H g = none) (o : Off K (B.R nms) H H') (l : LawAt K H' { B with s := set1 B.s x g } nms st' w1 w2 ld') : W2 K CO CM H0 H' b n A { B with s := set1 B.s x g } nms st st' v1 v2 w1 w2 lds ld' := by
  obtain ⟨kvs, e⟩ := h.rm
  have out := h.out (Nw.of ng)
  have nw0 : Nw H0 g := Nw.back h.oH id (.of ng)
  have rr : ∀ a, ({ B with s := set1 B.s x g } : LAd).R nms a → B.R nms a ∨ a = g := fun a r => by
    rcases r with r | r | r | r | r | ⟨y, hy, r⟩
    · exact .inl (.inl r)
    · exact .inl (.inr (.inl r))
    · exact .inl (.inr (.inr (.inl r)))
    · exact .inl (.inr (.inr (.inr (.inl r))))
    · exact .inl (.inr (.inr (.inr (.inr (.inl r)))))
    · change a = set1 B.s x g y at r
      by_cases e : y = x
      · rw [e, set1_same] at r
        exact .inr r
      · rw [set1_ne e] at r
        exact .inl (.inr (.inr (.inr (.inr (.inr ⟨y, hy, r⟩)))))
  refine ⟨h.mo.off o (fun a r => (h.d1 a r).1) h.d2.1, l, o.boxAt (fun z => h.d3 _ z rfl) h.bx, ⟨kvs, o.dK h.la.nrm.1 e⟩, h.oH.trans o (fun a r => .inr (h.nw a (.inr (.inr (.inl r))))), fun a d => ?_, fun a r => ?_, ?_, fun a r => ?_, h.d4⟩
  · rcases d with d | d | d | d
    · exact h.nw a (.inl d)
    · exact h.nw a (.inr (.inl d))
    · rcases rr a d with d | d
      · exact h.nw a (.inr (.inr (.inl d)))
      · exact d ▸ nw0
    · exact h.nw a (.inr (.inr (.inr d)))
  · obtain ⟨k1, k2, k3, k4⟩ := h.d1 a r
    exact ⟨fun z => (rr a z).elim k1 fun z => out (.inl (z ▸ r)), k2, k3, k4⟩
  · exact ⟨fun z => (rr _ z).elim h.d2.1 fun z => out (.inr (.inl z.symm)), h.d2.2⟩
  · rcases rr a r with r | r
    · exact h.d3 a r
    · subst r
      exact fun z => out (.inr (.inr (.inr (.inr (.inr z)))))
end
end KR
/-! ### deeds on moulds: a share that can be drawn, a < b <= c <= d tested -/
namespace KR
open PySem PySem.Spec PyProof.Rows L2
section
variable {X : Cx} {a b c d : Expr} {ta tb tc td : TE} {pos : Pos}
theorem pt_chain3 {op op' op2 : CmpOp} {r r' r2 : R2} (ho : OpR X (compareOp op) r) (ho' : OpR X (compareOp op') r') (ho2 : OpR X (compareOp op2) r2) (ha : PE X a ta) (hb : PE X b tb) (hc : PE X c tc) (hd : PE X d td)
    (hm : lastMarks [op, op', op2] [b, c, d] = false := by with_unfolding_all rfl) : PT X (.Compare a [op, op', op2] [b, c, d] pos) (tTest (tChain3 r r' r2 ta tb tc td)) := by
  refine ⟨fun pins s σ H Q I h => ?_⟩
  refine isTrue_chain (thn (ha.run pins s σ H _ I h) fun v s1 ⟨x, H1, I1, r1, q1⟩ => test_link (thn (hb.run pins s1 σ H1 _ I1 q1) fun u s2 ⟨y, H2, I2, r2', q2⟩ => thn (ho pins s2 σ H2 x y v u _ I2 r1 r2' q2) fun e s3 ⟨z, H3, I3, r3, k, ez, q3⟩ => ?_)) hm
  subst ez
  cases r3
  refine wpAny_truthy_bool ?_
  cases k with
  | false =>
    obtain ⟨k', e', q'⟩ := q3
    cases e'
    exact ite_ff ⟨H3, I3, q'⟩
  | true =>
    refine ite_tt (test_link (thn (hc.run pins s3 σ H3 _ I3 q3) fun u2 s4 ⟨y2, H4, I4, r4, q4⟩ => thn (ho' pins s4 σ H4 y y2 u u2 _ I4 r2' r4 q4) fun e2 s5 ⟨z2, H5, I5, r5, k2, ez2, q5⟩ => ?_))
    subst ez2
    cases r5
    refine wpAny_truthy_bool ?_
    cases k2 with
    | false =>
      obtain ⟨k', e', q'⟩ := q5
      cases e'
      exact ite_ff ⟨H5, I5, q'⟩
    | true =>
      refine ite_tt (test_last (thn (hd.run pins s5 σ H5 _ I5 q5) fun u3 s6 ⟨y3, H6, I6, r6, q6⟩ => thn (ho2 pins s6 σ H6 y2 y3 u2 u3 _ I6 r4 r6 q6) fun d' s7 ⟨z3, H7, I7, r7, k3, e3, q7⟩ => ?_))
      subst e3
      cases r7
      exact wpAny_truthy_bool ⟨H7, I7, q7⟩
end
theorem le_one_of {q : Rat} (h : q ≤ 1) : q.num ≤ (q.den : Int) := by
  rw [Rat.le_iff] at h
  have e1 : (1 : Rat).num = 1 := rfl
  have e2 : ((1 : Rat).den : Int) = 1 := rfl
  rw [e1, e2] at h
  omega
/-- a share that can be drawn -/
def ShOk (t : Rat) : Prop := 0 < t.num ∧ t.num ≤ (t.den : Int) ∧ (t.den : Int) ≤ 12
/-- a.update(b): dicts -/
def rUpdD : V → List V → Hp → VK → Prop := fun x vs H Q => ∃ (a b : Addr) (kvs more : List (Key × V)), x = .ref a ∧ vs = [.ref b] ∧ H a = some (.dK kvs) ∧ H b = some (.dK more) ∧ a ≠ b ∧ kvs.length + more.length ≤ sizeLine ∧ Q .non (upd H a (.dK (mergeK kvs more)))
theorem mt_updD {X : Cx} : MtM X "dict.update" rUpdD := by
  intro pn s σ H x vs v us Q I r1 r2 want
  obtain ⟨a, b, kvs, more, rfl, rfl, ha, hb, ne, z, q⟩ := want
  obtain rfl : v = Value.ref a := r1
  cases r2 with
  | cons r3 r4 =>
    cases r4
    cases r3
    obtain ⟨z1, lo1, vs1, rel1, d1⟩ := dk_of I.hok ha
    obtain ⟨z2, lo2, vs2, rel2, d2⟩ := dk_of I.hok hb
    have l1 := Paired.length rel1
    have l2 := Paired.length rel2
    refine call_meetsIn PySem.F.slot_dict_update d1.typeIs PySem.F.entry_dict_update (PySem.F.args_dict_update_2 _ _) (meets_dict_update (mixKind X.prog X.w) a b ne lo2) ⟨vs1, vs2, d1, d2, by rw [← l1, ← l2]; exact z, fun h' e1 e2 sb => ?_⟩
    have le := length_mergeK more kvs
    have there : ∃ o, h'.get? a = some o := by
      obtain ⟨o, _, _, e, _⟩ := id e1
      exact ⟨o, e⟩
    refine ⟨.non, upd H a (.dK (mergeK kvs more)), I.write (t' := s.toks) (x := a) (e := a) (by rw [ha]; exact True.intro) (.inl rfl) (fun c o n e => (sb.2 c n).trans e) there ?_, rfl, q⟩
    exact ⟨by omega, lo1, merged vs1 vs2, KV.merge rel2 rel1, e1⟩
/-- what stands in the law's vat changed -/
theorem LawAt.vat {K : PySem.W.Frag} {H : Hp} {A : LAd} {nms : List Str} {st : Str → Mo} {vs vw vs2 vw2 : Rat} {lds : List PyData} {vv vv2 : V} (h : LawAt K H A nms st vs vw lds) (e : H A.m = some (.dK (mkv A vv))) (j : JQ K H vv2 vs2 vw2) : LawAt K (upd H A.m (.dK (mkv A vv2))) A nms st vs2 vw2 lds := by
  have o : Off K (· = A.m) H (upd H A.m (.dK (mkv A vv2))) := .put e .dK rfl
  obtain ⟨_, ⟨f, h3, h4⟩, ⟨g, h5, h6⟩, h7, h8, ⟨w, h9, h10⟩, h11, ⟨l, h12, h13, h14⟩, si, nd, sn, ln⟩ := h
  have nd0 := nd
  simp only [List.nodup_cons, List.mem_cons, List.not_mem_nil, or_false, not_or, List.nodup_nil, and_true, not_false_iff] at nd
  obtain ⟨⟨a1, a2, a3, a4, a5⟩, _⟩ := nd
  exact ⟨⟨vv2, upd_same, j.tk o.tk⟩, ⟨f, o.rd (Ne.symm a1) h3 (fun _ z => by cases z), fun x hx => (h4 x hx).tk o.tk⟩, ⟨g, o.rd (Ne.symm a2) h5 (fun _ z => by cases z), fun x hx => (h6 x hx).tk o.tk⟩, o.dK (Ne.symm a3) h7, fun x hx => (h8 x hx).off o (fun z => sn x hx (by rw [z]; simp)), ⟨w, o.dK (Ne.symm a4) h9, fun x hx => (h10 x hx).tk o.tk⟩, o.dK (Ne.symm a5) h11, ⟨l, o.lst (fun z => by rw [z, e] at h12; cases h12) h12, h13, h14.tk o.tk⟩, si, nd0, sn, ln⟩
def PoursAt (K : PySem.W.Frag) (H : Hp) (pvs : List V) (ps : List Pour) : Prop := pvs.length = ps.length ∧ ∀ (i : Nat) (v : V) (p : Pour), pvs[i]? = some v → ps[i]? = some p → PourAt K H v p
theorem PoursAt.tk {K : PySem.W.Frag} {H H' : Hp} {pvs : List V} {ps : List Pour} (h : PoursAt K H pvs ps) (t : TK K H H') : PoursAt K H' pvs ps := ⟨h.1, fun i v p a b => (h.2 i v p a b).tk t⟩
theorem PoursAt.snoc {K : PySem.W.Frag} {H : Hp} {pvs : List V} {ps : List Pour} {v : V} {p : Pour} (h : PoursAt K H pvs ps) (k : PourAt K H v p) : PoursAt K H (pvs ++ [v]) (ps ++ [p]) :=
  ⟨by rw [List.length_append, List.length_append, h.1] <;> rfl, fun i u q hu hq => by
    by_cases c : i < pvs.length
    · rw [List.getElem?_append_left c] at hu
      rw [List.getElem?_append_left (by rw [← h.1]; exact c)] at hq
      exact h.2 i u q hu hq
    · have hi : i = pvs.length := by
        have := (List.getElem?_eq_some_iff.mp hu).1
        rw [List.length_append, List.length_singleton] at this
        omega
      subst hi
      rw [List.getElem?_append_right (Nat.le_refl _), Nat.sub_self] at hu
      rw [List.getElem?_append_right (by rw [h.1]; exact Nat.le_refl _), h.1, Nat.sub_self] at hq
      cases hu
      cases hq
      exact k⟩
/-- one pour in the law's book -/
def lpour (k : Int) (S : Str → Mo) (p : Pour) : Str → Mo := set1 S p.1 (((S p.1).poured ((S p.1).s + p.2.1) ((S p.1).w + p.2.2)).bear k p.2.1)
def lfold (st : Str → Mo) (k : Int) (ps : List Pour) : Str → Mo := ps.foldl (lpour k) st
theorem lfold_take {st : Str → Mo} {k : Int} {ps : List Pour} {i : Nat} {p : Pour} (h : ps[i]? = some p) : lfold st k (ps.take (i + 1)) = lpour k (lfold st k (ps.take i)) p := foldl_take h
theorem lpour_jus {k : Int} {S : Str → Mo} {p : Pour} : jus (lpour k S p) = jst (jus S) p := funext fun x => by
  unfold jus lpour jst
  by_cases e : x = p.1
  · rw [e, set1_same, set1_same] <;> rfl
  · rw [set1_ne e, set1_ne e]
theorem lpour_same {k : Int} {S : Str → Mo} {p : Pour} {x : Str} : (lpour k S p x).room = (S x).room ∧ (lpour k S p x).cur = (S x).cur ∧ (lpour k S p x).drip = (S x).drip := by
  unfold lpour
  by_cases e : x = p.1
  · rw [e, set1_same]
    exact ⟨rfl, rfl, rfl⟩
  · rw [set1_ne e]
    exact ⟨rfl, rfl, rfl⟩
theorem lfold_jus {k : Int} : ∀ (ps : List Pour) {S : Str → Mo}, jus (lfold S k ps) = beh (jus S) ps
  | [], _ => rfl
  | p :: r, S => by
    show jus (lfold (lpour k S p) k r) = beh (jst (jus S) p) r
    rw [lfold_jus r, lpour_jus]
theorem lfold_same {k : Int} : ∀ (ps : List Pour) {S : Str → Mo} {x : Str}, (lfold S k ps x).room = (S x).room ∧ (lfold S k ps x).cur = (S x).cur ∧ (lfold S k ps x).drip = (S x).drip
  | [], _, _ => ⟨rfl, rfl, rfl⟩
  | p :: r, S, x => by
    obtain ⟨a1, a2, a3⟩ := lfold_same r (S := lpour k S p) (x := x)
    obtain ⟨b1, b2, b3⟩ := lpour_same (k := k) (S := S) (p := p) (x := x)
    exact ⟨a1.trans b1, a2.trans b2, a3.trans b3⟩
/-- what the law reckons with in a filling -/
structure LFit (m : Mo) : Prop where
  add : AddOk (m.ks.map fun k => m.q k * m.left)
  big : ∀ k ∈ m.ks, Big (m.q k * m.left)
  s : Big m.s
  w : Big m.w
  sw : Big (m.s + m.w)
  len : m.ks.length < 1000
  room : Big (m.room : Rat)
  sum : m.s = m.tot * m.left
/-- the law's book under another address -/
theorem LawAt.moveM {K : PySem.W.Frag} {H : Hp} {N : LAd} {nms : List Str} {st : Str → Mo} {vs vw : Rat} {lds : List PyData} {a : Addr} {o : Bool} {kvs : List (Key × V)} {vv : V} (h : LawAt K H N nms st vs vw lds) (e : H a = some (.dK kvs)) (ne : ∀ c, N.R nms c ∨ c = N.rm ∨ c = N.dp → c ≠ a) (hv : JQ K H vv vs vw) :
    LawAt K (upd H a (.dK (mkv { N with m := a, o := o } vv))) { N with m := a, o := o } nms st vs vw lds := by
  have of : Off K (· = a) H (upd H a (.dK (mkv { N with m := a, o := o } vv))) := .put e .dK rfl
  obtain ⟨_, ⟨f, h3, h4⟩, ⟨g, h5, h6⟩, h7, h8, ⟨w, h9, h10⟩, h11, ⟨l, h12, h13, h14⟩, si, nd, sn, ln⟩ := h
  simp only [List.nodup_cons, List.mem_cons, List.not_mem_nil, or_false, not_or, List.nodup_nil, and_true, not_false_iff] at nd
  obtain ⟨_, n2⟩ := nd
  have x1 := ne N.rm (.inr (.inl rfl))
  have x2 := ne N.dp (.inr (.inr rfl))
  have x3 := ne N.sg (.inl (.inr (.inl rfl)))
  have x4 := ne N.wt (.inl (.inr (.inr (.inl rfl))))
  have x5 := ne N.dr (.inl (.inr (.inr (.inr (.inl rfl)))))
  have x6 := ne N.lv (.inl (.inr (.inr (.inr (.inr (.inl rfl))))))
  have x7 : ∀ x ∈ nms, N.s x ≠ a := fun x hx => ne _ (.inl (.inr (.inr (.inr (.inr (.inr ⟨x, hx, rfl⟩))))))
  refine ⟨⟨vv, upd_same, hv.tk of.tk⟩, ⟨f, of.rd x1 h3 (fun _ z => by cases z), fun x hx => (h4 x hx).tk of.tk⟩, ⟨g, of.rd x2 h5 (fun _ z => by cases z), fun x hx => (h6 x hx).tk of.tk⟩, of.dK x3 h7, fun x hx => (h8 x hx).off of (x7 x hx), ⟨w, of.dK x4 h9, fun x hx => (h10 x hx).tk of.tk⟩, of.dK x5 h11, ⟨l, of.lst x6 h12, h13, h14.tk of.tk⟩, si, ?_, fun x hx => ?_, ln⟩
  · show [a, N.rm, N.dp, N.sg, N.wt, N.dr].Nodup
    simp only [List.nodup_cons, List.mem_cons, List.not_mem_nil, or_false, not_or, List.nodup_nil, and_true, not_false_iff]
    exact ⟨⟨x1.symm, x2.symm, x3.symm, x4.symm, x5.symm⟩, n2⟩
  · show N.s x ∉ [a, N.rm, N.dp, N.sg, N.wt, N.dr]
    have k := sn x hx
    simp only [List.mem_cons, List.not_mem_nil, or_false, not_or] at k ⊢
    exact ⟨x7 x hx, k.2⟩
theorem mkv_merge {A N : LAd} {v1 v2 : V} : mergeK (mkv A v1) (mkv N v2) = mkv { N with m := A.m, o := A.o } v2 := by
  unfold mkv
  cases A.o <;> cases N.o <;> rfl
end KR
/-! ### a method that may raise, called within a try -/
namespace KR
open PySem PySem.Spec PyProof.Rows L2
section
variable {X : Cx} {CX : CXT} {k : Nat} {f C : Addr} {fd : FuncData} {ps : List Str} {sp : Sp} {E : L2.St → XK} {m : Str} {pos apos : Pos} {e o : Expr} {es : List Expr} {ta : TE} {t : TA}
/-- o.m(..), its refusals handed on with the slots -/
def tMethX (C : Addr) (m : Str) (sp : Sp) (E : L2.St → XK) (ta : TE) (t : TA) : TE := fun σ H Q => ta σ H fun x H1 => ∃ a dx fs, x = .ref a ∧ H1 a = some (.ins C dx fs) ∧ fs.lookup m = none ∧ t σ H1 fun vs H2 => sp (x :: vs) H2 Q (E σ)
theorem pe_methX {pl : Sem Bool} (he : PE X o ta) (c : Cls X.K C) (hm : Meth X.K C m f) (F : FnOk X.prog X.w X.K X.mg X.base CX k f fd ps sp) (hr : Room k X.A) (hb : Binds X.K fd ps []) (hx : ∀ σ, PassesAt CX X σ (E σ)) (ha : PA X (e :: es) t)
    (hst : starEach (e :: es) X.env = (false, eval e X.env) :: starEach es X.env := by rfl) (hpl : (backTo pos (starEach es X.env)).any (·.1) = false := by rfl)
    (ht : eval (.Call (.Attribute o m apos) (e :: es) [] pos) X.env = (do
      let ov ← eval o X.env
      standAt apos.atName
      let (f, first) ← holding [ov] (getMethod ov m pl)
      callWith pos f first (backTo pos (starEach (e :: es) X.env)) (backToKw pos (keywordEach [] X.env))) := by rfl) :
    PE X (.Call (.Attribute o m apos) (e :: es) [] pos) (tMethX C m sp E ta t) := by
  refine ⟨fun pins s σ H Q I h => ?_⟩
  refine PySem.W.methodCall_KW (pl := pl) (thn (he.run pins s σ H _ I h) fun u s1 ⟨x, H1, I1, rx, a, dx, fs, ex, ea, l, q⟩ => ?_) ht
  subst ex
  obtain rfl : u = Value.ref a := rx
  refine getmeth_ok I1 ea c hm l ?_
  refine PySem.W.callWith_K (first := [.ref a]) (h₀ := X.base) I.ok.mod.kin hm.kp (thn (ha.run pos pins s1 σ H1 _ I1 q) fun us s2 ⟨vs, H2, I2, r, q2⟩ => ⟨I2.kIn, ?_⟩) hst hpl
  exact run_fnS (us := .ref a :: us) (vs := .ref a :: vs) F hr hb (hx σ) I2 (.cons rfl r) q2
end
theorem Rf.mono {C : Addr} {nm : Str} {v : V} {H : Hp} {E E' : XK} (h : Rf C nm v H E) (he : ∀ c d G, E c d G → E' c d G) : Rf C nm v H E' := fun d G s x => he _ _ _ (h d G s x)
end KR
namespace KR
open PySem PySem.Spec PyProof.Rows L2
def top (i : Nat) : Stmt := PySem.Challenge.pw_kettlerow_k34_loaves_knocked_out.main.body.getD i (.Pass ⟨0, 0, 0, 0⟩)
def clsBody : Stmt → List Stmt
  | .ClassDef (body := b) .. => b
  | _ => []
abbrev s_Moulds__named : Stmt := (clsBody (top 61)).getD 13 (.Pass ⟨0, 0, 0, 0⟩)
theorem sc_Moulds__named : FnScope ["self", "name"] ["self", "name"] (defScope s_Moulds__named) := ⟨rfl, rfl, rfl, by decide +kernel, rfl, by decide +kernel, by decide +kernel⟩
abbrev s_Moulds__juices_behind : Stmt := (clsBody (top 61)).getD 12 (.Pass ⟨0, 0, 0, 0⟩)
theorem sc_Moulds__juices_behind : FnScope ["self", "pours", "juices", "name", "juice", "mould"] ["self", "pours"] (defScope s_Moulds__juices_behind) := ⟨rfl, rfl, rfl, by decide +kernel, rfl, by decide +kernel, by decide +kernel⟩
abbrev s_Moulds_loaves : Stmt := (clsBody (top 61)).getD 10 (.Pass ⟨0, 0, 0, 0⟩)
theorem sc_Moulds_loaves : FnScope ["self"] ["self"] (defScope s_Moulds_loaves) := ⟨rfl, rfl, rfl, by decide +kernel, rfl, by decide +kernel, by decide +kernel⟩
abbrev s_Moulds_vat : Stmt := (clsBody (top 61)).getD 9 (.Pass ⟨0, 0, 0, 0⟩)
theorem sc_Moulds_vat : FnScope ["self"] ["self"] (defScope s_Moulds_vat) := ⟨rfl, rfl, rfl, by decide +kernel, rfl, by decide +kernel, by decide +kernel⟩
abbrev s_Moulds_bears : Stmt := (clsBody (top 61)).getD 8 (.Pass ⟨0, 0, 0, 0⟩)
theorem sc_Moulds_bears : FnScope ["self", "mould"] ["self", "mould"] (defScope s_Moulds_bears) := ⟨rfl, rfl, rfl, by decide +kernel, rfl, by decide +kernel, by decide +kernel⟩
abbrev s_Moulds_is_cured : Stmt := (clsBody (top 61)).getD 7 (.Pass ⟨0, 0, 0, 0⟩)
theorem sc_Moulds_is_cured : FnScope ["self", "mould"] ["self", "mould"] (defScope s_Moulds_is_cured) := ⟨rfl, rfl, rfl, by decide +kernel, rfl, by decide +kernel, by decide +kernel⟩
abbrev s_Moulds_juice_in : Stmt := (clsBody (top 61)).getD 6 (.Pass ⟨0, 0, 0, 0⟩)
theorem sc_Moulds_juice_in : FnScope ["self", "mould"] ["self", "mould"] (defScope s_Moulds_juice_in) := ⟨rfl, rfl, rfl, by decide +kernel, rfl, by decide +kernel, by decide +kernel⟩
abbrev s_Moulds_mould_names : Stmt := (clsBody (top 61)).getD 5 (.Pass ⟨0, 0, 0, 0⟩)
theorem sc_Moulds_mould_names : FnScope ["self"] ["self"] (defScope s_Moulds_mould_names) := ⟨rfl, rfl, rfl, by decide +kernel, rfl, by decide +kernel, by decide +kernel⟩
abbrev s_Moulds_draw_off : Stmt := (clsBody (top 61)).getD 4 (.Pass ⟨0, 0, 0, 0⟩)
theorem sc_Moulds_draw_off : FnScope ["self", "share", "drawn"] ["self", "share"] (defScope s_Moulds_draw_off) := ⟨rfl, rfl, rfl, by decide +kernel, rfl, by decide +kernel, by decide +kernel⟩
abbrev s_Moulds_knock : Stmt := (clsBody (top 61)).getD 3 (.Pass ⟨0, 0, 0, 0⟩)
theorem sc_Moulds_knock : FnScope ["self", "mould", "knocked", "sugar", "shares"] ["self", "mould"] (defScope s_Moulds_knock) := ⟨rfl, rfl, rfl, by decide +kernel, rfl, by decide +kernel, by decide +kernel⟩
abbrev s_Moulds_drain : Stmt := (clsBody (top 61)).getD 2 (.Pass ⟨0, 0, 0, 0⟩)
theorem sc_Moulds_drain : FnScope ["self", "mould", "drained", "dripped"] ["self", "mould"] (defScope s_Moulds_drain) := ⟨rfl, rfl, rfl, by decide +kernel, rfl, by decide +kernel, by decide +kernel⟩
abbrev s_Moulds_fill : Stmt := (clsBody (top 61)).getD 1 (.Pass ⟨0, 0, 0, 0⟩)
theorem sc_Moulds_fill : FnScope ["self", "strike", "pours", "juices", "name", "juice", "mould"] ["self", "strike", "pours"] (defScope s_Moulds_fill) := ⟨rfl, rfl, rfl, by decide +kernel, rfl, by decide +kernel, by decide +kernel⟩
abbrev s_Moulds_init : Stmt := (clsBody (top 61)).getD 0 (.Pass ⟨0, 0, 0, 0⟩)
theorem sc_Moulds_init : FnScope ["self", "row", "name", "room", "drip"] ["self", "row"] (defScope s_Moulds_init) := ⟨rfl, rfl, rfl, by decide +kernel, rfl, by decide +kernel, by decide +kernel⟩
abbrev s_Mould_clear_out : Stmt := (clsBody (top 32)).getD 4 (.Pass ⟨0, 0, 0, 0⟩)
theorem sc_Mould_clear_out : FnScope ["self"] ["self"] (defScope s_Mould_clear_out) := ⟨rfl, rfl, rfl, by decide +kernel, rfl, by decide +kernel, by decide +kernel⟩
abbrev s_Mould_drip_out : Stmt := (clsBody (top 32)).getD 3 (.Pass ⟨0, 0, 0, 0⟩)
theorem sc_Mould_drip_out : FnScope ["self", "sugar", "water", "dripped"] ["self"] (defScope s_Mould_drip_out) := ⟨rfl, rfl, rfl, by decide +kernel, rfl, by decide +kernel, by decide +kernel⟩
abbrev s_Mould_strike_shares : Stmt := (clsBody (top 32)).getD 2 (.Pass ⟨0, 0, 0, 0⟩)
theorem sc_Mould_strike_shares : FnScope ["self", "whole", "sugar", "strike"] ["self"] (defScope s_Mould_strike_shares) := ⟨rfl, rfl, rfl, by decide +kernel, rfl, by decide +kernel, by decide +kernel⟩
abbrev s_Mould_bear : Stmt := (clsBody (top 32)).getD 1 (.Pass ⟨0, 0, 0, 0⟩)
theorem sc_Mould_bear : FnScope ["self", "strike", "sugar"] ["self", "strike", "sugar"] (defScope s_Mould_bear) := ⟨rfl, rfl, rfl, by decide +kernel, rfl, by decide +kernel, by decide +kernel⟩
abbrev s_Mould_init : Stmt := (clsBody (top 32)).getD 0 (.Pass ⟨0, 0, 0, 0⟩)
theorem sc_Mould_init : FnScope ["self", "room", "drip"] ["self", "room", "drip"] (defScope s_Mould_init) := ⟨rfl, rfl, rfl, by decide +kernel, rfl, by decide +kernel, by decide +kernel⟩
abbrev s_SameRow_init : Stmt := (clsBody (top 45)).getD 0 (.Pass ⟨0, 0, 0, 0⟩)
theorem sc_SameRow_init : FnScope ["self", "row"] ["self", "row"] (defScope s_SameRow_init) := ⟨rfl, rfl, rfl, by decide +kernel, rfl, by decide +kernel, by decide +kernel⟩
abbrev s_Row_init : Stmt := (clsBody (top 44)).getD 0 (.Pass ⟨0, 0, 0, 0⟩)
theorem sc_Row_init : FnScope ["self", "kettles", "moulds"] ["self", "kettles", "moulds"] (defScope s_Row_init) := ⟨rfl, rfl, rfl, by decide +kernel, rfl, by decide +kernel, by decide +kernel⟩
abbrev s_p_is_number : Stmt := top 13
theorem sc_p_is_number : FnScope ["thing"] ["thing"] (defScope s_p_is_number) := ⟨rfl, rfl, rfl, by decide +kernel, rfl, by decide +kernel, by decide +kernel⟩
abbrev s_p_is_number_within : Stmt := top 14
theorem sc_p_is_number_within : FnScope ["thing", "least", "most"] ["thing", "least", "most"] (defScope s_p_is_number_within) := ⟨rfl, rfl, rfl, by decide +kernel, rfl, by decide +kernel, by decide +kernel⟩
abbrev s_p_is_frac : Stmt := top 18
theorem sc_p_is_frac : FnScope ["thing", "top", "bottom"] ["thing"] (defScope s_p_is_frac) := ⟨rfl, rfl, rfl, by decide +kernel, rfl, by decide +kernel, by decide +kernel⟩
abbrev s_p_frac_of : Stmt := top 19
theorem sc_p_frac_of : FnScope ["top", "bottom", "common"] ["top", "bottom"] (defScope s_p_frac_of) := ⟨rfl, rfl, rfl, by decide +kernel, rfl, by decide +kernel, by decide +kernel⟩
abbrev s_p_sum_of : Stmt := top 20
theorem sc_p_sum_of : FnScope ["one", "other"] ["one", "other"] (defScope s_p_sum_of) := ⟨rfl, rfl, rfl, by decide +kernel, rfl, by decide +kernel, by decide +kernel⟩
abbrev s_p_difference : Stmt := top 21
theorem sc_p_difference : FnScope ["one", "other"] ["one", "other"] (defScope s_p_difference) := ⟨rfl, rfl, rfl, by decide +kernel, rfl, by decide +kernel, by decide +kernel⟩
abbrev s_p_product : Stmt := top 22
theorem sc_p_product : FnScope ["one", "other"] ["one", "other"] (defScope s_p_product) := ⟨rfl, rfl, rfl, by decide +kernel, rfl, by decide +kernel, by decide +kernel⟩
abbrev s_p_quotient : Stmt := top 23
theorem sc_p_quotient : FnScope ["one", "other"] ["one", "other"] (defScope s_p_quotient) := ⟨rfl, rfl, rfl, by decide +kernel, rfl, by decide +kernel, by decide +kernel⟩
abbrev s_p_is_lesser : Stmt := top 24
theorem sc_p_is_lesser : FnScope ["one", "other"] ["one", "other"] (defScope s_p_is_lesser) := ⟨rfl, rfl, rfl, by decide +kernel, rfl, by decide +kernel, by decide +kernel⟩
abbrev s_p_mixed : Stmt := top 27
theorem sc_p_mixed : FnScope ["one", "other"] ["one", "other"] (defScope s_p_mixed) := ⟨rfl, rfl, rfl, by decide +kernel, rfl, by decide +kernel, by decide +kernel⟩
abbrev s_p_share_of : Stmt := top 28
theorem sc_p_share_of : FnScope ["juice", "share"] ["juice", "share"] (defScope s_p_share_of) := ⟨rfl, rfl, rfl, by decide +kernel, rfl, by decide +kernel, by decide +kernel⟩
abbrev s_p_rest_of : Stmt := top 29
theorem sc_p_rest_of : FnScope ["juice", "share"] ["juice", "share"] (defScope s_p_rest_of) := ⟨rfl, rfl, rfl, by decide +kernel, rfl, by decide +kernel, by decide +kernel⟩
abbrev s_p_volume_of : Stmt := top 30
theorem sc_p_volume_of : FnScope ["juice"] ["juice"] (defScope s_p_volume_of) := ⟨rfl, rfl, rfl, by decide +kernel, rfl, by decide +kernel, by decide +kernel⟩
abbrev s_p_is_name : Stmt := top 35
theorem sc_p_is_name : FnScope ["thing", "letter"] ["thing"] (defScope s_p_is_name) := ⟨rfl, rfl, rfl, by decide +kernel, rfl, by decide +kernel, by decide +kernel⟩
abbrev s_p_are_unlike : Stmt := top 36
theorem sc_p_are_unlike : FnScope ["names"] ["names"] (defScope s_p_are_unlike) := ⟨rfl, rfl, rfl, by decide +kernel, rfl, by decide +kernel, by decide +kernel⟩
abbrev s_p_is_kettle : Stmt := top 46
theorem sc_p_is_kettle : FnScope ["thing", "name", "room", "fire", "mark"] ["thing"] (defScope s_p_is_kettle) := ⟨rfl, rfl, rfl, by decide +kernel, rfl, by decide +kernel, by decide +kernel⟩
abbrev s_p_is_mould : Stmt := top 47
theorem sc_p_is_mould : FnScope ["thing", "name", "room", "drip"] ["thing"] (defScope s_p_is_mould) := ⟨rfl, rfl, rfl, by decide +kernel, rfl, by decide +kernel, by decide +kernel⟩
abbrev s_p__can_be_kettles : Stmt := top 48
theorem sc_p__can_be_kettles : FnScope ["things", "thing"] ["things"] (defScope s_p__can_be_kettles) := ⟨rfl, rfl, rfl, by decide +kernel, rfl, by decide +kernel, by decide +kernel⟩
abbrev s_p__can_be_moulds : Stmt := top 49
theorem sc_p__can_be_moulds : FnScope ["things", "kettles", "thing", "one"] ["things", "kettles"] (defScope s_p__can_be_moulds) := ⟨rfl, rfl, rfl, by decide +kernel, rfl, by decide +kernel, by decide +kernel⟩
abbrev s_p__are_name_and_room : Stmt := top 50
theorem sc_p__are_name_and_room : FnScope ["name", "room"] ["name", "room"] (defScope s_p__are_name_and_room) := ⟨rfl, rfl, rfl, by decide +kernel, rfl, by decide +kernel, by decide +kernel⟩
abbrev s_p__is_mark : Stmt := top 51
theorem sc_p__is_mark : FnScope ["thing"] ["thing"] (defScope s_p__is_mark) := ⟨rfl, rfl, rfl, by decide +kernel, rfl, by decide +kernel, by decide +kernel⟩
abbrev s_p__is_drip : Stmt := top 52
theorem sc_p__is_drip : FnScope ["thing"] ["thing"] (defScope s_p__is_drip) := ⟨rfl, rfl, rfl, by decide +kernel, rfl, by decide +kernel, by decide +kernel⟩
abbrev s_p_need_share : Stmt := top 55
theorem sc_p_need_share : FnScope ["share", "top", "bottom"] ["share"] (defScope s_p_need_share) := ⟨rfl, rfl, rfl, by decide +kernel, rfl, by decide +kernel, by decide +kernel⟩
abbrev s_p_need_some : Stmt := top 57
theorem sc_p_need_some : FnScope ["name", "juice"] ["name", "juice"] (defScope s_p_need_some) := ⟨rfl, rfl, rfl, by decide +kernel, rfl, by decide +kernel, by decide +kernel⟩
abbrev s_p_poured_into : Stmt := top 58
theorem sc_p_poured_into : FnScope ["name", "room", "juice", "more", "whole"] ["name", "room", "juice", "more"] (defScope s_p_poured_into) := ⟨rfl, rfl, rfl, by decide +kernel, rfl, by decide +kernel, by decide +kernel⟩
abbrev s_l_cell_at : Stmt := top 63
theorem sc_l_cell_at : FnScope ["_law_script", "_law_k"] ["_law_script", "_law_k"] (defScope s_l_cell_at) := ⟨rfl, rfl, rfl, by decide +kernel, rfl, by decide +kernel, by decide +kernel⟩
abbrev s_l_box : Stmt := top 64
theorem sc_l_box : FnScope ["_law_script", "_law_k", "_law_cell"] ["_law_script", "_law_k"] (defScope s_l_box) := ⟨rfl, rfl, rfl, by decide +kernel, rfl, by decide +kernel, by decide +kernel⟩
abbrev s_l_take : Stmt := top 65
theorem sc_l_take : FnScope ["_law_box_here", "_law_many", "_law_found", "_law_once", "_law_twice"] ["_law_box_here", "_law_many"] (defScope s_l_take) := ⟨rfl, rfl, rfl, by decide +kernel, rfl, by decide +kernel, by decide +kernel⟩
abbrev s_l_names : Stmt := top 66
theorem sc_l_names : FnScope ["_law_box_here", "_law_many", "_law_letters", "_law_found", "_law_words", "_law_first", "_law_step", "_law_stem", "_law_tail", "_law_k", "_law_one", "_law_other", "_law_name"] ["_law_box_here", "_law_many"] (defScope s_l_names) := ⟨rfl, rfl, rfl, by decide +kernel, rfl, by decide +kernel, by decide +kernel⟩
abbrev s_l_low : Stmt := top 67
theorem sc_l_low : FnScope ["_law_top", "_law_bottom", "_law_one", "_law_other"] ["_law_top", "_law_bottom"] (defScope s_l_low) := ⟨rfl, rfl, rfl, by decide +kernel, rfl, by decide +kernel, by decide +kernel⟩
abbrev s_l_plus : Stmt := top 68
theorem sc_l_plus : FnScope ["_law_one", "_law_other"] ["_law_one", "_law_other"] (defScope s_l_plus) := ⟨rfl, rfl, rfl, by decide +kernel, rfl, by decide +kernel, by decide +kernel⟩
abbrev s_l_by : Stmt := top 69
theorem sc_l_by : FnScope ["_law_one", "_law_other"] ["_law_one", "_law_other"] (defScope s_l_by) := ⟨rfl, rfl, rfl, by decide +kernel, rfl, by decide +kernel, by decide +kernel⟩
abbrev s_l_share : Stmt := top 70
theorem sc_l_share : FnScope ["_law_box_here", "_law_bottom"] ["_law_box_here"] (defScope s_l_share) := ⟨rfl, rfl, rfl, by decide +kernel, rfl, by decide +kernel, by decide +kernel⟩
abbrev s_l_same : Stmt := top 71
theorem sc_l_same : FnScope ["_law_found", "_law_due", "_law_one", "_law_other", "_law_alike"] ["_law_found", "_law_due"] (defScope s_l_same) := ⟨rfl, rfl, rfl, by decide +kernel, rfl, by decide +kernel, by decide +kernel⟩
abbrev s_l_row : Stmt := top 72
theorem sc_l_row : FnScope ["_law_box_here", "_law_many", "_law_great", "_law_names_here", "_law_found", "_law_name", "_law_bottom", "_law_room"] ["_law_box_here", "_law_many", "_law_great"] (defScope s_l_row) := ⟨rfl, rfl, rfl, by decide +kernel, rfl, by decide +kernel, by decide +kernel⟩
abbrev s_l_new : Stmt := top 73
theorem sc_l_new : FnScope ["_law_row_here", "_law_m", "_law_name", "_law_room", "_law_drip"] ["_law_row_here"] (defScope s_l_new) := ⟨rfl, rfl, rfl, by decide +kernel, rfl, by decide +kernel, by decide +kernel⟩
abbrev s_l_copied : Stmt := top 74
theorem sc_l_copied : FnScope ["_law_m", "_law_found", "_law_word", "_law_name"] ["_law_m"] (defScope s_l_copied) := ⟨rfl, rfl, rfl, by decide +kernel, rfl, by decide +kernel, by decide +kernel⟩
abbrev s_l_inside : Stmt := top 75
theorem sc_l_inside : FnScope ["_law_m", "_law_mould", "_law_sugar", "_law_strike"] ["_law_m", "_law_mould"] (defScope s_l_inside) := ⟨rfl, rfl, rfl, by decide +kernel, rfl, by decide +kernel, by decide +kernel⟩
abbrev s_l_bears : Stmt := top 76
theorem sc_l_bears : FnScope ["_law_m", "_law_mould", "_law_whole", "_law_found", "_law_strike"] ["_law_m", "_law_mould"] (defScope s_l_bears) := ⟨rfl, rfl, rfl, by decide +kernel, rfl, by decide +kernel, by decide +kernel⟩
abbrev s_l_is_more : Stmt := top 77
theorem sc_l_is_more : FnScope ["_law_one", "_law_other"] ["_law_one", "_law_other"] (defScope s_l_is_more) := ⟨rfl, rfl, rfl, by decide +kernel, rfl, by decide +kernel, by decide +kernel⟩
abbrev s_l_fill : Stmt := top 78
theorem sc_l_fill : FnScope ["_law_m", "_law_strike", "_law_pours_here", "_law_now", "_law_mould", "_law_juice_here", "_law_inside_here", "_law_whole", "_law_ahead"] ["_law_m", "_law_strike", "_law_pours_here"] (defScope s_l_fill) := ⟨rfl, rfl, rfl, by decide +kernel, rfl, by decide +kernel, by decide +kernel⟩
abbrev s_l_drain : Stmt := top 79
theorem sc_l_drain : FnScope ["_law_m", "_law_mould", "_law_sugar", "_law_water", "_law_drip", "_law_gone", "_law_stays", "_law_strike"] ["_law_m", "_law_mould"] (defScope s_l_drain) := ⟨rfl, rfl, rfl, by decide +kernel, rfl, by decide +kernel, by decide +kernel⟩
abbrev s_l_knock : Stmt := top 80
theorem sc_l_knock : FnScope ["_law_m", "_law_mould", "_law_loaf"] ["_law_m", "_law_mould"] (defScope s_l_knock) := ⟨rfl, rfl, rfl, by decide +kernel, rfl, by decide +kernel, by decide +kernel⟩
abbrev s_l_draw : Stmt := top 81
theorem sc_l_draw : FnScope ["_law_m", "_law_share_here", "_law_gone", "_law_stays", "_law_part"] ["_law_m", "_law_share_here"] (defScope s_l_draw) := ⟨rfl, rfl, rfl, by decide +kernel, rfl, by decide +kernel, by decide +kernel⟩
abbrev s_l_done : Stmt := top 82
theorem sc_l_done : FnScope ["_law_m", "_law_deed_here"] ["_law_m", "_law_deed_here"] (defScope s_l_done) := ⟨rfl, rfl, rfl, by decide +kernel, rfl, by decide +kernel, by decide +kernel⟩
abbrev s_l_told : Stmt := top 83
theorem sc_l_told : FnScope ["_law_moulds", "_law_deed_here", "_law_caught", "_law_told_here", "error", "_law_words", "_law_found", "_law_so", "_law_word"] ["_law_moulds", "_law_deed_here"] (defScope s_l_told) := ⟨rfl, rfl, rfl, by decide +kernel, rfl, by decide +kernel, by decide +kernel⟩
abbrev s_l_stands : Stmt := top 84
theorem sc_l_stands : FnScope ["_law_moulds", "_law_m", "_law_names_here", "_law_found", "_law_name", "_law_due"] ["_law_moulds", "_law_m"] (defScope s_l_stands) := ⟨rfl, rfl, rfl, by decide +kernel, rfl, by decide +kernel, by decide +kernel⟩
abbrev s_l_juice : Stmt := top 85
theorem sc_l_juice : FnScope ["_law_box_here", "_law_room", "_law_bottom", "_law_sugar", "_law_most"] ["_law_box_here", "_law_room"] (defScope s_l_juice) := ⟨rfl, rfl, rfl, by decide +kernel, rfl, by decide +kernel, by decide +kernel⟩
abbrev s_l_pours : Stmt := top 86
theorem sc_l_pours : FnScope ["_law_box_here", "_law_m", "_law_names_here", "_law_found", "_law_k", "_law_mould", "_law_room"] ["_law_box_here", "_law_m", "_law_names_here"] (defScope s_l_pours) := ⟨rfl, rfl, rfl, by decide +kernel, rfl, by decide +kernel, by decide +kernel⟩
abbrev s_l_deed : Stmt := top 87
theorem sc_l_deed : FnScope ["_law_box_here", "_law_m", "_law_sorts", "_law_sort", "_law_names_here", "_law_mould", "_law_some"] ["_law_box_here", "_law_m", "_law_sorts"] (defScope s_l_deed) := ⟨rfl, rfl, rfl, by decide +kernel, rfl, by decide +kernel, by decide +kernel⟩
abbrev s_p_law : Stmt := top 88
theorem sc_p_law : FnScope ["_law_script", "_law_sorts", "_law_k", "_law_box_here", "_law_row_here", "_law_moulds", "_law_m", "_law_turn", "_law_deed_here", "_law_due"] ["_law_script"] (defScope s_p_law) := ⟨rfl, rfl, rfl, by decide +kernel, rfl, by decide +kernel, by decide +kernel⟩
abbrev s_init_NoMould : Stmt := (clsBody (top 6)).getD 0 (.Pass ⟨0, 0, 0, 0⟩)
theorem sc_init_NoMould : FnScope ["self", "what"] ["self", "what"] (defScope s_init_NoMould) := ⟨rfl, rfl, rfl, by decide +kernel, rfl, by decide +kernel, by decide +kernel⟩
abbrev s_init_NoRoom : Stmt := (clsBody (top 8)).getD 0 (.Pass ⟨0, 0, 0, 0⟩)
theorem sc_init_NoRoom : FnScope ["self", "what"] ["self", "what"] (defScope s_init_NoRoom) := ⟨rfl, rfl, rfl, by decide +kernel, rfl, by decide +kernel, by decide +kernel⟩
abbrev s_init_NoShare : Stmt := (clsBody (top 7)).getD 0 (.Pass ⟨0, 0, 0, 0⟩)
theorem sc_init_NoShare : FnScope ["self", "what"] ["self", "what"] (defScope s_init_NoShare) := ⟨rfl, rfl, rfl, by decide +kernel, rfl, by decide +kernel, by decide +kernel⟩
abbrev s_init_Empty : Stmt := (clsBody (top 9)).getD 0 (.Pass ⟨0, 0, 0, 0⟩)
theorem sc_init_Empty : FnScope ["self", "what"] ["self", "what"] (defScope s_init_Empty) := ⟨rfl, rfl, rfl, by decide +kernel, rfl, by decide +kernel, by decide +kernel⟩
abbrev s_init_Cured : Stmt := (clsBody (top 10)).getD 0 (.Pass ⟨0, 0, 0, 0⟩)
theorem sc_init_Cured : FnScope ["self", "what"] ["self", "what"] (defScope s_init_Cured) := ⟨rfl, rfl, rfl, by decide +kernel, rfl, by decide +kernel, by decide +kernel⟩
abbrev s_init_NotCured : Stmt := (clsBody (top 11)).getD 0 (.Pass ⟨0, 0, 0, 0⟩)
theorem sc_init_NotCured : FnScope ["self", "what"] ["self", "what"] (defScope s_init_NotCured) := ⟨rfl, rfl, rfl, by decide +kernel, rfl, by decide +kernel, by decide +kernel⟩
structure All (K : PySem.W.Frag) (mg : Str → Option Value) where
  f_Moulds__named : Addr
  fd_Moulds__named : FuncData
  F_Moulds__named : Fun K "_named" "Moulds._named" s_Moulds__named f_Moulds__named fd_Moulds__named
  b_Moulds__named : Binds K fd_Moulds__named ["self", "name"] []
  f_Moulds__juices_behind : Addr
  fd_Moulds__juices_behind : FuncData
  F_Moulds__juices_behind : Fun K "_juices_behind" "Moulds._juices_behind" s_Moulds__juices_behind f_Moulds__juices_behind fd_Moulds__juices_behind
  b_Moulds__juices_behind : Binds K fd_Moulds__juices_behind ["self", "pours"] []
  f_Moulds_loaves : Addr
  fd_Moulds_loaves : FuncData
  F_Moulds_loaves : Fun K "loaves" "Moulds.loaves" s_Moulds_loaves f_Moulds_loaves fd_Moulds_loaves
  b_Moulds_loaves : Binds K fd_Moulds_loaves ["self"] []
  f_Moulds_vat : Addr
  fd_Moulds_vat : FuncData
  F_Moulds_vat : Fun K "vat" "Moulds.vat" s_Moulds_vat f_Moulds_vat fd_Moulds_vat
  b_Moulds_vat : Binds K fd_Moulds_vat ["self"] []
  f_Moulds_bears : Addr
  fd_Moulds_bears : FuncData
  F_Moulds_bears : Fun K "bears" "Moulds.bears" s_Moulds_bears f_Moulds_bears fd_Moulds_bears
  b_Moulds_bears : Binds K fd_Moulds_bears ["self", "mould"] []
  f_Moulds_is_cured : Addr
  fd_Moulds_is_cured : FuncData
  F_Moulds_is_cured : Fun K "is_cured" "Moulds.is_cured" s_Moulds_is_cured f_Moulds_is_cured fd_Moulds_is_cured
  b_Moulds_is_cured : Binds K fd_Moulds_is_cured ["self", "mould"] []
  f_Moulds_juice_in : Addr
  fd_Moulds_juice_in : FuncData
  F_Moulds_juice_in : Fun K "juice_in" "Moulds.juice_in" s_Moulds_juice_in f_Moulds_juice_in fd_Moulds_juice_in
  b_Moulds_juice_in : Binds K fd_Moulds_juice_in ["self", "mould"] []
  f_Moulds_mould_names : Addr
  fd_Moulds_mould_names : FuncData
  F_Moulds_mould_names : Fun K "mould_names" "Moulds.mould_names" s_Moulds_mould_names f_Moulds_mould_names fd_Moulds_mould_names
  b_Moulds_mould_names : Binds K fd_Moulds_mould_names ["self"] []
  f_Moulds_draw_off : Addr
  fd_Moulds_draw_off : FuncData
  F_Moulds_draw_off : Fun K "draw_off" "Moulds.draw_off" s_Moulds_draw_off f_Moulds_draw_off fd_Moulds_draw_off
  b_Moulds_draw_off : Binds K fd_Moulds_draw_off ["self", "share"] []
  f_Moulds_knock : Addr
  fd_Moulds_knock : FuncData
  F_Moulds_knock : Fun K "knock" "Moulds.knock" s_Moulds_knock f_Moulds_knock fd_Moulds_knock
  b_Moulds_knock : Binds K fd_Moulds_knock ["self", "mould"] []
  f_Moulds_drain : Addr
  fd_Moulds_drain : FuncData
  F_Moulds_drain : Fun K "drain" "Moulds.drain" s_Moulds_drain f_Moulds_drain fd_Moulds_drain
  b_Moulds_drain : Binds K fd_Moulds_drain ["self", "mould"] []
  f_Moulds_fill : Addr
  fd_Moulds_fill : FuncData
  F_Moulds_fill : Fun K "fill" "Moulds.fill" s_Moulds_fill f_Moulds_fill fd_Moulds_fill
  b_Moulds_fill : Binds K fd_Moulds_fill ["self", "strike", "pours"] []
  f_Moulds_init : Addr
  fd_Moulds_init : FuncData
  F_Moulds_init : Fun K "__init__" "Moulds.__init__" s_Moulds_init f_Moulds_init fd_Moulds_init
  b_Moulds_init : Binds K fd_Moulds_init ["self", "row"] []
  f_Mould_clear_out : Addr
  fd_Mould_clear_out : FuncData
  F_Mould_clear_out : Fun K "clear_out" "Mould.clear_out" s_Mould_clear_out f_Mould_clear_out fd_Mould_clear_out
  b_Mould_clear_out : Binds K fd_Mould_clear_out ["self"] []
  f_Mould_drip_out : Addr
  fd_Mould_drip_out : FuncData
  F_Mould_drip_out : Fun K "drip_out" "Mould.drip_out" s_Mould_drip_out f_Mould_drip_out fd_Mould_drip_out
  b_Mould_drip_out : Binds K fd_Mould_drip_out ["self"] []
  f_Mould_strike_shares : Addr
  fd_Mould_strike_shares : FuncData
  F_Mould_strike_shares : Fun K "strike_shares" "Mould.strike_shares" s_Mould_strike_shares f_Mould_strike_shares fd_Mould_strike_shares
  b_Mould_strike_shares : Binds K fd_Mould_strike_shares ["self"] []
  f_Mould_bear : Addr
  fd_Mould_bear : FuncData
  F_Mould_bear : Fun K "bear" "Mould.bear" s_Mould_bear f_Mould_bear fd_Mould_bear
  b_Mould_bear : Binds K fd_Mould_bear ["self", "strike", "sugar"] []
  f_Mould_init : Addr
  fd_Mould_init : FuncData
  F_Mould_init : Fun K "__init__" "Mould.__init__" s_Mould_init f_Mould_init fd_Mould_init
  b_Mould_init : Binds K fd_Mould_init ["self", "room", "drip"] []
  f_SameRow_init : Addr
  fd_SameRow_init : FuncData
  F_SameRow_init : Fun K "__init__" "SameRow.__init__" s_SameRow_init f_SameRow_init fd_SameRow_init
  b_SameRow_init : Binds K fd_SameRow_init ["self", "row"] []
  f_Row_init : Addr
  fd_Row_init : FuncData
  F_Row_init : Fun K "__init__" "Row.__init__" s_Row_init f_Row_init fd_Row_init
  b_Row_init : Binds K fd_Row_init ["self", "kettles", "moulds"] []
  f_p_is_number : Addr
  fd_p_is_number : FuncData
  d_p_is_number : Def K mg "is_number" s_p_is_number f_p_is_number fd_p_is_number ["thing"]
  f_p_is_number_within : Addr
  fd_p_is_number_within : FuncData
  d_p_is_number_within : Def K mg "is_number_within" s_p_is_number_within f_p_is_number_within fd_p_is_number_within ["thing", "least", "most"]
  f_p_is_frac : Addr
  fd_p_is_frac : FuncData
  d_p_is_frac : Def K mg "is_frac" s_p_is_frac f_p_is_frac fd_p_is_frac ["thing"]
  f_p_frac_of : Addr
  fd_p_frac_of : FuncData
  d_p_frac_of : Def K mg "frac_of" s_p_frac_of f_p_frac_of fd_p_frac_of ["top", "bottom"]
  f_p_sum_of : Addr
  fd_p_sum_of : FuncData
  d_p_sum_of : Def K mg "sum_of" s_p_sum_of f_p_sum_of fd_p_sum_of ["one", "other"]
  f_p_difference : Addr
  fd_p_difference : FuncData
  d_p_difference : Def K mg "difference" s_p_difference f_p_difference fd_p_difference ["one", "other"]
  f_p_product : Addr
  fd_p_product : FuncData
  d_p_product : Def K mg "product" s_p_product f_p_product fd_p_product ["one", "other"]
  f_p_quotient : Addr
  fd_p_quotient : FuncData
  d_p_quotient : Def K mg "quotient" s_p_quotient f_p_quotient fd_p_quotient ["one", "other"]
  f_p_is_lesser : Addr
  fd_p_is_lesser : FuncData
  d_p_is_lesser : Def K mg "is_lesser" s_p_is_lesser f_p_is_lesser fd_p_is_lesser ["one", "other"]
  f_p_mixed : Addr
  fd_p_mixed : FuncData
  d_p_mixed : Def K mg "mixed" s_p_mixed f_p_mixed fd_p_mixed ["one", "other"]
  f_p_share_of : Addr
  fd_p_share_of : FuncData
  d_p_share_of : Def K mg "share_of" s_p_share_of f_p_share_of fd_p_share_of ["juice", "share"]
  f_p_rest_of : Addr
  fd_p_rest_of : FuncData
  d_p_rest_of : Def K mg "rest_of" s_p_rest_of f_p_rest_of fd_p_rest_of ["juice", "share"]
  f_p_volume_of : Addr
  fd_p_volume_of : FuncData
  d_p_volume_of : Def K mg "volume_of" s_p_volume_of f_p_volume_of fd_p_volume_of ["juice"]
  f_p_is_name : Addr
  fd_p_is_name : FuncData
  d_p_is_name : Def K mg "is_name" s_p_is_name f_p_is_name fd_p_is_name ["thing"]
  f_p_are_unlike : Addr
  fd_p_are_unlike : FuncData
  d_p_are_unlike : Def K mg "are_unlike" s_p_are_unlike f_p_are_unlike fd_p_are_unlike ["names"]
  f_p_is_kettle : Addr
  fd_p_is_kettle : FuncData
  d_p_is_kettle : Def K mg "is_kettle" s_p_is_kettle f_p_is_kettle fd_p_is_kettle ["thing"]
  f_p_is_mould : Addr
  fd_p_is_mould : FuncData
  d_p_is_mould : Def K mg "is_mould" s_p_is_mould f_p_is_mould fd_p_is_mould ["thing"]
  f_p__can_be_kettles : Addr
  fd_p__can_be_kettles : FuncData
  d_p__can_be_kettles : Def K mg "_can_be_kettles" s_p__can_be_kettles f_p__can_be_kettles fd_p__can_be_kettles ["things"]
  f_p__can_be_moulds : Addr
  fd_p__can_be_moulds : FuncData
  d_p__can_be_moulds : Def K mg "_can_be_moulds" s_p__can_be_moulds f_p__can_be_moulds fd_p__can_be_moulds ["things", "kettles"]
  f_p__are_name_and_room : Addr
  fd_p__are_name_and_room : FuncData
  d_p__are_name_and_room : Def K mg "_are_name_and_room" s_p__are_name_and_room f_p__are_name_and_room fd_p__are_name_and_room ["name", "room"]
  f_p__is_mark : Addr
  fd_p__is_mark : FuncData
  d_p__is_mark : Def K mg "_is_mark" s_p__is_mark f_p__is_mark fd_p__is_mark ["thing"]
  f_p__is_drip : Addr
  fd_p__is_drip : FuncData
  d_p__is_drip : Def K mg "_is_drip" s_p__is_drip f_p__is_drip fd_p__is_drip ["thing"]
  f_p_need_share : Addr
  fd_p_need_share : FuncData
  d_p_need_share : Def K mg "need_share" s_p_need_share f_p_need_share fd_p_need_share ["share"]
  f_p_need_some : Addr
  fd_p_need_some : FuncData
  d_p_need_some : Def K mg "need_some" s_p_need_some f_p_need_some fd_p_need_some ["name", "juice"]
  f_p_poured_into : Addr
  fd_p_poured_into : FuncData
  d_p_poured_into : Def K mg "poured_into" s_p_poured_into f_p_poured_into fd_p_poured_into ["name", "room", "juice", "more"]
  f_l_cell_at : Addr
  fd_l_cell_at : FuncData
  d_l_cell_at : Def K mg "_law_cell_at" s_l_cell_at f_l_cell_at fd_l_cell_at ["_law_script", "_law_k"]
  f_l_box : Addr
  fd_l_box : FuncData
  d_l_box : Def K mg "_law_box" s_l_box f_l_box fd_l_box ["_law_script", "_law_k"]
  f_l_take : Addr
  fd_l_take : FuncData
  d_l_take : Def K mg "_law_take" s_l_take f_l_take fd_l_take ["_law_box_here", "_law_many"]
  f_l_names : Addr
  fd_l_names : FuncData
  d_l_names : Def K mg "_law_names" s_l_names f_l_names fd_l_names ["_law_box_here", "_law_many"]
  f_l_low : Addr
  fd_l_low : FuncData
  d_l_low : Def K mg "_law_low" s_l_low f_l_low fd_l_low ["_law_top", "_law_bottom"]
  f_l_plus : Addr
  fd_l_plus : FuncData
  d_l_plus : Def K mg "_law_plus" s_l_plus f_l_plus fd_l_plus ["_law_one", "_law_other"]
  f_l_by : Addr
  fd_l_by : FuncData
  d_l_by : Def K mg "_law_by" s_l_by f_l_by fd_l_by ["_law_one", "_law_other"]
  f_l_share : Addr
  fd_l_share : FuncData
  d_l_share : Def K mg "_law_share" s_l_share f_l_share fd_l_share ["_law_box_here"]
  f_l_same : Addr
  fd_l_same : FuncData
  d_l_same : Def K mg "_law_same" s_l_same f_l_same fd_l_same ["_law_found", "_law_due"]
  f_l_row : Addr
  fd_l_row : FuncData
  d_l_row : Def K mg "_law_row" s_l_row f_l_row fd_l_row ["_law_box_here", "_law_many", "_law_great"]
  f_l_new : Addr
  fd_l_new : FuncData
  d_l_new : Def K mg "_law_new" s_l_new f_l_new fd_l_new ["_law_row_here"]
  f_l_copied : Addr
  fd_l_copied : FuncData
  d_l_copied : Def K mg "_law_copied" s_l_copied f_l_copied fd_l_copied ["_law_m"]
  f_l_inside : Addr
  fd_l_inside : FuncData
  d_l_inside : Def K mg "_law_inside" s_l_inside f_l_inside fd_l_inside ["_law_m", "_law_mould"]
  f_l_bears : Addr
  fd_l_bears : FuncData
  d_l_bears : Def K mg "_law_bears" s_l_bears f_l_bears fd_l_bears ["_law_m", "_law_mould"]
  f_l_is_more : Addr
  fd_l_is_more : FuncData
  d_l_is_more : Def K mg "_law_is_more" s_l_is_more f_l_is_more fd_l_is_more ["_law_one", "_law_other"]
  f_l_fill : Addr
  fd_l_fill : FuncData
  d_l_fill : Def K mg "_law_fill" s_l_fill f_l_fill fd_l_fill ["_law_m", "_law_strike", "_law_pours_here"]
  f_l_drain : Addr
  fd_l_drain : FuncData
  d_l_drain : Def K mg "_law_drain" s_l_drain f_l_drain fd_l_drain ["_law_m", "_law_mould"]
  f_l_knock : Addr
  fd_l_knock : FuncData
  d_l_knock : Def K mg "_law_knock" s_l_knock f_l_knock fd_l_knock ["_law_m", "_law_mould"]
  f_l_draw : Addr
  fd_l_draw : FuncData
  d_l_draw : Def K mg "_law_draw" s_l_draw f_l_draw fd_l_draw ["_law_m", "_law_share_here"]
  f_l_done : Addr
  fd_l_done : FuncData
  d_l_done : Def K mg "_law_done" s_l_done f_l_done fd_l_done ["_law_m", "_law_deed_here"]
  f_l_told : Addr
  fd_l_told : FuncData
  d_l_told : Def K mg "_law_told" s_l_told f_l_told fd_l_told ["_law_moulds", "_law_deed_here"]
  f_l_stands : Addr
  fd_l_stands : FuncData
  d_l_stands : Def K mg "_law_stands" s_l_stands f_l_stands fd_l_stands ["_law_moulds", "_law_m"]
  f_l_juice : Addr
  fd_l_juice : FuncData
  d_l_juice : Def K mg "_law_juice" s_l_juice f_l_juice fd_l_juice ["_law_box_here", "_law_room"]
  f_l_pours : Addr
  fd_l_pours : FuncData
  d_l_pours : Def K mg "_law_pours" s_l_pours f_l_pours fd_l_pours ["_law_box_here", "_law_m", "_law_names_here"]
  f_l_deed : Addr
  fd_l_deed : FuncData
  d_l_deed : Def K mg "_law_deed" s_l_deed f_l_deed fd_l_deed ["_law_box_here", "_law_m", "_law_sorts"]
  f_p_law : Addr
  fd_p_law : FuncData
  d_p_law : Def K mg "law" s_p_law f_p_law fd_p_law ["_law_script"]
  b_abs : mg "abs" = none
  b_all : mg "all" = none
  b_bool : mg "bool" = none
  b_dict : mg "dict" = none
  b_divmod : mg "divmod" = none
  b_int : mg "int" = none
  b_isinstance : mg "isinstance" = none
  b_len : mg "len" = none
  b_list : mg "list" = none
  b_max : mg "max" = none
  b_min : mg "min" = none
  b_range : mg "range" = none
  b_set : mg "set" = none
  b_sorted : mg "sorted" = none
  b_str : mg "str" = none
  b_tuple : mg "tuple" = none
  b_zip : mg "zip" = none
  m_gcd : mg "gcd" = some (.builtin "math.gcd")
  t_MOST_LETTERS : Tok
  c_MOST_LETTERS : mg "MOST_LETTERS" = some (.int 8 t_MOST_LETTERS)
  t_MOST_KETTLES : Tok
  c_MOST_KETTLES : mg "MOST_KETTLES" = some (.int 8 t_MOST_KETTLES)
  t_MOST_MOULDS : Tok
  c_MOST_MOULDS : mg "MOST_MOULDS" = some (.int 40 t_MOST_MOULDS)
  t_MOST_ROOM : Tok
  c_MOST_ROOM : mg "MOST_ROOM" = some (.int 1000000 t_MOST_ROOM)
  t_MOST_FIRE : Tok
  c_MOST_FIRE : mg "MOST_FIRE" = some (.int 10000 t_MOST_FIRE)
  t_MOST_MARK_BOTTOM : Tok
  c_MOST_MARK_BOTTOM : mg "MOST_MARK_BOTTOM" = some (.int 60 t_MOST_MARK_BOTTOM)
  t_MOST_DRIP_BOTTOM : Tok
  c_MOST_DRIP_BOTTOM : mg "MOST_DRIP_BOTTOM" = some (.int 12 t_MOST_DRIP_BOTTOM)
  t_MOST_BOTTOM : Tok
  c_MOST_BOTTOM : mg "MOST_BOTTOM" = some (.int 12 t_MOST_BOTTOM)
  t_VAT : Tok
  c_VAT : mg "VAT" = some (.str "vat" t_VAT)
  C_BoilError : Addr
  g_BoilError : mg "BoilError" = some (.ref C_BoilError)
  C_NoMould : Addr
  g_NoMould : mg "NoMould" = some (.ref C_NoMould)
  C_NoRoom : Addr
  g_NoRoom : mg "NoRoom" = some (.ref C_NoRoom)
  C_NoShare : Addr
  g_NoShare : mg "NoShare" = some (.ref C_NoShare)
  C_Empty : Addr
  g_Empty : mg "Empty" = some (.ref C_Empty)
  C_Cured : Addr
  g_Cured : mg "Cured" = some (.ref C_Cured)
  C_NotCured : Addr
  g_NotCured : mg "NotCured" = some (.ref C_NotCured)
  O_NoMould : OexC K C_NoMould
  fI_NoMould : Addr
  fdI_NoMould : FuncData
  i_NoMould : PySem.W.findIn K (.ref C_NoMould) "__init__" = some (some (.ref fI_NoMould))
  tI_NoMould : PySem.W.typeIn K (.ref fI_NoMould) = some (.type "function")
  FI_NoMould : Fun K "__init__" "NoMould.__init__" s_init_NoMould fI_NoMould fdI_NoMould
  bI_NoMould : Binds K fdI_NoMould ["self", "what"] []
  E_NoMould : ExcFacts K C_NoMould
  N_NoMould : NmC K C_NoMould "NoMould"
  O_NoRoom : OexC K C_NoRoom
  fI_NoRoom : Addr
  fdI_NoRoom : FuncData
  i_NoRoom : PySem.W.findIn K (.ref C_NoRoom) "__init__" = some (some (.ref fI_NoRoom))
  tI_NoRoom : PySem.W.typeIn K (.ref fI_NoRoom) = some (.type "function")
  FI_NoRoom : Fun K "__init__" "NoRoom.__init__" s_init_NoRoom fI_NoRoom fdI_NoRoom
  bI_NoRoom : Binds K fdI_NoRoom ["self", "what"] []
  E_NoRoom : ExcFacts K C_NoRoom
  N_NoRoom : NmC K C_NoRoom "NoRoom"
  O_NoShare : OexC K C_NoShare
  fI_NoShare : Addr
  fdI_NoShare : FuncData
  i_NoShare : PySem.W.findIn K (.ref C_NoShare) "__init__" = some (some (.ref fI_NoShare))
  tI_NoShare : PySem.W.typeIn K (.ref fI_NoShare) = some (.type "function")
  FI_NoShare : Fun K "__init__" "NoShare.__init__" s_init_NoShare fI_NoShare fdI_NoShare
  bI_NoShare : Binds K fdI_NoShare ["self", "what"] []
  E_NoShare : ExcFacts K C_NoShare
  N_NoShare : NmC K C_NoShare "NoShare"
  O_Empty : OexC K C_Empty
  fI_Empty : Addr
  fdI_Empty : FuncData
  i_Empty : PySem.W.findIn K (.ref C_Empty) "__init__" = some (some (.ref fI_Empty))
  tI_Empty : PySem.W.typeIn K (.ref fI_Empty) = some (.type "function")
  FI_Empty : Fun K "__init__" "Empty.__init__" s_init_Empty fI_Empty fdI_Empty
  bI_Empty : Binds K fdI_Empty ["self", "what"] []
  E_Empty : ExcFacts K C_Empty
  N_Empty : NmC K C_Empty "Empty"
  O_Cured : OexC K C_Cured
  fI_Cured : Addr
  fdI_Cured : FuncData
  i_Cured : PySem.W.findIn K (.ref C_Cured) "__init__" = some (some (.ref fI_Cured))
  tI_Cured : PySem.W.typeIn K (.ref fI_Cured) = some (.type "function")
  FI_Cured : Fun K "__init__" "Cured.__init__" s_init_Cured fI_Cured fdI_Cured
  bI_Cured : Binds K fdI_Cured ["self", "what"] []
  E_Cured : ExcFacts K C_Cured
  N_Cured : NmC K C_Cured "Cured"
  O_NotCured : OexC K C_NotCured
  fI_NotCured : Addr
  fdI_NotCured : FuncData
  i_NotCured : PySem.W.findIn K (.ref C_NotCured) "__init__" = some (some (.ref fI_NotCured))
  tI_NotCured : PySem.W.typeIn K (.ref fI_NotCured) = some (.type "function")
  FI_NotCured : Fun K "__init__" "NotCured.__init__" s_init_NotCured fI_NotCured fdI_NotCured
  bI_NotCured : Binds K fdI_NotCured ["self", "what"] []
  E_NotCured : ExcFacts K C_NotCured
  N_NotCured : NmC K C_NotCured "NotCured"
  te_NoMould : PySem.W.exmOne K (.ref C_NoMould) (.ref C_BoilError) = some true
  te_NoRoom : PySem.W.exmOne K (.ref C_NoRoom) (.ref C_BoilError) = some true
  te_NoShare : PySem.W.exmOne K (.ref C_NoShare) (.ref C_BoilError) = some true
  te_Empty : PySem.W.exmOne K (.ref C_Empty) (.ref C_BoilError) = some true
  te_Cured : PySem.W.exmOne K (.ref C_Cured) (.ref C_BoilError) = some true
  te_NotCured : PySem.W.exmOne K (.ref C_NotCured) (.ref C_BoilError) = some true
  kk_NoMould_NoMould : PySem.W.kitOne K (.ref C_NoMould) (.ref C_NoMould) = some true
  kk_NoMould_NoRoom : PySem.W.kitOne K (.ref C_NoMould) (.ref C_NoRoom) = some false
  kk_NoMould_NoShare : PySem.W.kitOne K (.ref C_NoMould) (.ref C_NoShare) = some false
  kk_NoMould_Empty : PySem.W.kitOne K (.ref C_NoMould) (.ref C_Empty) = some false
  kk_NoMould_Cured : PySem.W.kitOne K (.ref C_NoMould) (.ref C_Cured) = some false
  kk_NoMould_NotCured : PySem.W.kitOne K (.ref C_NoMould) (.ref C_NotCured) = some false
  kk_NoRoom_NoMould : PySem.W.kitOne K (.ref C_NoRoom) (.ref C_NoMould) = some false
  kk_NoRoom_NoRoom : PySem.W.kitOne K (.ref C_NoRoom) (.ref C_NoRoom) = some true
  kk_NoRoom_NoShare : PySem.W.kitOne K (.ref C_NoRoom) (.ref C_NoShare) = some false
  kk_NoRoom_Empty : PySem.W.kitOne K (.ref C_NoRoom) (.ref C_Empty) = some false
  kk_NoRoom_Cured : PySem.W.kitOne K (.ref C_NoRoom) (.ref C_Cured) = some false
  kk_NoRoom_NotCured : PySem.W.kitOne K (.ref C_NoRoom) (.ref C_NotCured) = some false
  kk_NoShare_NoMould : PySem.W.kitOne K (.ref C_NoShare) (.ref C_NoMould) = some false
  kk_NoShare_NoRoom : PySem.W.kitOne K (.ref C_NoShare) (.ref C_NoRoom) = some false
  kk_NoShare_NoShare : PySem.W.kitOne K (.ref C_NoShare) (.ref C_NoShare) = some true
  kk_NoShare_Empty : PySem.W.kitOne K (.ref C_NoShare) (.ref C_Empty) = some false
  kk_NoShare_Cured : PySem.W.kitOne K (.ref C_NoShare) (.ref C_Cured) = some false
  kk_NoShare_NotCured : PySem.W.kitOne K (.ref C_NoShare) (.ref C_NotCured) = some false
  kk_Empty_NoMould : PySem.W.kitOne K (.ref C_Empty) (.ref C_NoMould) = some false
  kk_Empty_NoRoom : PySem.W.kitOne K (.ref C_Empty) (.ref C_NoRoom) = some false
  kk_Empty_NoShare : PySem.W.kitOne K (.ref C_Empty) (.ref C_NoShare) = some false
  kk_Empty_Empty : PySem.W.kitOne K (.ref C_Empty) (.ref C_Empty) = some true
  kk_Empty_Cured : PySem.W.kitOne K (.ref C_Empty) (.ref C_Cured) = some false
  kk_Empty_NotCured : PySem.W.kitOne K (.ref C_Empty) (.ref C_NotCured) = some false
  kk_Cured_NoMould : PySem.W.kitOne K (.ref C_Cured) (.ref C_NoMould) = some false
  kk_Cured_NoRoom : PySem.W.kitOne K (.ref C_Cured) (.ref C_NoRoom) = some false
  kk_Cured_NoShare : PySem.W.kitOne K (.ref C_Cured) (.ref C_NoShare) = some false
  kk_Cured_Empty : PySem.W.kitOne K (.ref C_Cured) (.ref C_Empty) = some false
  kk_Cured_Cured : PySem.W.kitOne K (.ref C_Cured) (.ref C_Cured) = some true
  kk_Cured_NotCured : PySem.W.kitOne K (.ref C_Cured) (.ref C_NotCured) = some false
  kk_NotCured_NoMould : PySem.W.kitOne K (.ref C_NotCured) (.ref C_NoMould) = some false
  kk_NotCured_NoRoom : PySem.W.kitOne K (.ref C_NotCured) (.ref C_NoRoom) = some false
  kk_NotCured_NoShare : PySem.W.kitOne K (.ref C_NotCured) (.ref C_NoShare) = some false
  kk_NotCured_Empty : PySem.W.kitOne K (.ref C_NotCured) (.ref C_Empty) = some false
  kk_NotCured_Cured : PySem.W.kitOne K (.ref C_NotCured) (.ref C_Cured) = some false
  kk_NotCured_NotCured : PySem.W.kitOne K (.ref C_NotCured) (.ref C_NotCured) = some true
  C_Row : Addr
  g_Row : mg "Row" = some (.ref C_Row)
  M_Row : Mk K C_Row f_Row_init
  L_Row : Cls K C_Row
  n_Row_kettles : NoAttr K C_Row "kettles"
  n_Row_moulds : NoAttr K C_Row "moulds"
  C_SameRow : Addr
  g_SameRow : mg "SameRow" = some (.ref C_SameRow)
  M_SameRow : Mk K C_SameRow f_SameRow_init
  L_SameRow : Cls K C_SameRow
  n_SameRow_kettles : NoAttr K C_SameRow "kettles"
  n_SameRow_moulds : NoAttr K C_SameRow "moulds"
  C_Mould : Addr
  g_Mould : mg "Mould" = some (.ref C_Mould)
  M_Mould : Mk K C_Mould f_Mould_init
  L_Mould : Cls K C_Mould
  n_Mould_room : NoAttr K C_Mould "room"
  n_Mould_drip : NoAttr K C_Mould "drip"
  n_Mould_juice : NoAttr K C_Mould "juice"
  n_Mould_sugars : NoAttr K C_Mould "sugars"
  n_Mould_cured : NoAttr K C_Mould "cured"
  C_Moulds : Addr
  g_Moulds : mg "Moulds" = some (.ref C_Moulds)
  M_Moulds : Mk K C_Moulds f_Moulds_init
  L_Moulds : Cls K C_Moulds
  n_Moulds__row : NoAttr K C_Moulds "_row"
  n_Moulds__table : NoAttr K C_Moulds "_table"
  n_Moulds__vat : NoAttr K C_Moulds "_vat"
  n_Moulds__loaves : NoAttr K C_Moulds "_loaves"
  m_Moulds__named : Meth K C_Moulds "_named" f_Moulds__named
  m_Moulds__juices_behind : Meth K C_Moulds "_juices_behind" f_Moulds__juices_behind
  m_Moulds_loaves : Meth K C_Moulds "loaves" f_Moulds_loaves
  m_Moulds_vat : Meth K C_Moulds "vat" f_Moulds_vat
  m_Moulds_bears : Meth K C_Moulds "bears" f_Moulds_bears
  m_Moulds_is_cured : Meth K C_Moulds "is_cured" f_Moulds_is_cured
  m_Moulds_juice_in : Meth K C_Moulds "juice_in" f_Moulds_juice_in
  m_Moulds_mould_names : Meth K C_Moulds "mould_names" f_Moulds_mould_names
  m_Moulds_draw_off : Meth K C_Moulds "draw_off" f_Moulds_draw_off
  m_Moulds_knock : Meth K C_Moulds "knock" f_Moulds_knock
  m_Moulds_drain : Meth K C_Moulds "drain" f_Moulds_drain
  m_Moulds_fill : Meth K C_Moulds "fill" f_Moulds_fill
  m_Mould_clear_out : Meth K C_Mould "clear_out" f_Mould_clear_out
  m_Mould_drip_out : Meth K C_Mould "drip_out" f_Mould_drip_out
  m_Mould_strike_shares : Meth K C_Mould "strike_shares" f_Mould_strike_shares
  m_Mould_bear : Meth K C_Mould "bear" f_Mould_bear
  c_p_is_name : Addr
  P_p_is_name : Addr
  k_p_is_name : FunC K "is_name" "is_name" s_p_is_name f_p_is_name fd_p_is_name c_p_is_name
  c_p__can_be_kettles : Addr
  P_p__can_be_kettles : Addr
  k_p__can_be_kettles : FunC K "_can_be_kettles" "_can_be_kettles" s_p__can_be_kettles f_p__can_be_kettles fd_p__can_be_kettles c_p__can_be_kettles
  c_p__can_be_moulds : Addr
  P_p__can_be_moulds : Addr
  k_p__can_be_moulds : FunC K "_can_be_moulds" "_can_be_moulds" s_p__can_be_moulds f_p__can_be_moulds fd_p__can_be_moulds c_p__can_be_moulds
  C_NOTHING : Addr
  g_NOTHING : mg "NOTHING" = some (.ref C_NOTHING)
  q_NOTHING : ∃ x y, ∀ H, SqT K H C_NOTHING [.ref x, .ref y] ∧ SqT K H x [.int 0, .int 1] ∧ SqT K H y [.int 0, .int 1]
  C_NOUGHT : Addr
  g_NOUGHT : mg "NOUGHT" = some (.ref C_NOUGHT)
  q_NOUGHT : ∀ H, SqT K H C_NOUGHT [.int 0, .int 1]
  C_ONE : Addr
  g_ONE : mg "ONE" = some (.ref C_ONE)
  q_ONE : ∀ H, SqT K H C_ONE [.int 1, .int 1]
theorem ok_init_NoMould {P : Program} {w : World} {K : PySem.W.Frag} {mg : Str → Option Value} {base : Heap} (T : All K mg) : FnOk P w K mg base CX0 1 T.fI_NoMould T.fdI_NoMould ["self", "what"] (sp_initX T.C_NoMould "NoMould") := by
  refine T.FI_NoMould.ok sc_init_NoMould (fun vs H Q E h => ?_) (fun cdv A outer s H vs Q E hr h => ?_)
  · obtain ⟨a, v, rfl, _⟩ := h
    rfl
  · obtain ⟨a, v, rfl, ha, q⟩ := h
    exact ⟨_, pss_cons (ps_ost (pv 0) (pv 1)) (pss_one (ps_ost (pv 0) (pe_cnm (pv 0)))), init_reads T.O_NoMould T.E_NoMould T.N_NoMould ha fun dx h1 h2 => q dx h1 h2⟩
theorem ok_init_NoRoom {P : Program} {w : World} {K : PySem.W.Frag} {mg : Str → Option Value} {base : Heap} (T : All K mg) : FnOk P w K mg base CX0 1 T.fI_NoRoom T.fdI_NoRoom ["self", "what"] (sp_initX T.C_NoRoom "NoRoom") := by
  refine T.FI_NoRoom.ok sc_init_NoRoom (fun vs H Q E h => ?_) (fun cdv A outer s H vs Q E hr h => ?_)
  · obtain ⟨a, v, rfl, _⟩ := h
    rfl
  · obtain ⟨a, v, rfl, ha, q⟩ := h
    exact ⟨_, pss_cons (ps_ost (pv 0) (pv 1)) (pss_one (ps_ost (pv 0) (pe_cnm (pv 0)))), init_reads T.O_NoRoom T.E_NoRoom T.N_NoRoom ha fun dx h1 h2 => q dx h1 h2⟩
theorem ok_init_NoShare {P : Program} {w : World} {K : PySem.W.Frag} {mg : Str → Option Value} {base : Heap} (T : All K mg) : FnOk P w K mg base CX0 1 T.fI_NoShare T.fdI_NoShare ["self", "what"] (sp_initX T.C_NoShare "NoShare") := by
  refine T.FI_NoShare.ok sc_init_NoShare (fun vs H Q E h => ?_) (fun cdv A outer s H vs Q E hr h => ?_)
  · obtain ⟨a, v, rfl, _⟩ := h
    rfl
  · obtain ⟨a, v, rfl, ha, q⟩ := h
    exact ⟨_, pss_cons (ps_ost (pv 0) (pv 1)) (pss_one (ps_ost (pv 0) (pe_cnm (pv 0)))), init_reads T.O_NoShare T.E_NoShare T.N_NoShare ha fun dx h1 h2 => q dx h1 h2⟩
theorem ok_init_Empty {P : Program} {w : World} {K : PySem.W.Frag} {mg : Str → Option Value} {base : Heap} (T : All K mg) : FnOk P w K mg base CX0 1 T.fI_Empty T.fdI_Empty ["self", "what"] (sp_initX T.C_Empty "Empty") := by
  refine T.FI_Empty.ok sc_init_Empty (fun vs H Q E h => ?_) (fun cdv A outer s H vs Q E hr h => ?_)
  · obtain ⟨a, v, rfl, _⟩ := h
    rfl
  · obtain ⟨a, v, rfl, ha, q⟩ := h
    exact ⟨_, pss_cons (ps_ost (pv 0) (pv 1)) (pss_one (ps_ost (pv 0) (pe_cnm (pv 0)))), init_reads T.O_Empty T.E_Empty T.N_Empty ha fun dx h1 h2 => q dx h1 h2⟩
theorem ok_init_Cured {P : Program} {w : World} {K : PySem.W.Frag} {mg : Str → Option Value} {base : Heap} (T : All K mg) : FnOk P w K mg base CX0 1 T.fI_Cured T.fdI_Cured ["self", "what"] (sp_initX T.C_Cured "Cured") := by
  refine T.FI_Cured.ok sc_init_Cured (fun vs H Q E h => ?_) (fun cdv A outer s H vs Q E hr h => ?_)
  · obtain ⟨a, v, rfl, _⟩ := h
    rfl
  · obtain ⟨a, v, rfl, ha, q⟩ := h
    exact ⟨_, pss_cons (ps_ost (pv 0) (pv 1)) (pss_one (ps_ost (pv 0) (pe_cnm (pv 0)))), init_reads T.O_Cured T.E_Cured T.N_Cured ha fun dx h1 h2 => q dx h1 h2⟩
theorem ok_init_NotCured {P : Program} {w : World} {K : PySem.W.Frag} {mg : Str → Option Value} {base : Heap} (T : All K mg) : FnOk P w K mg base CX0 1 T.fI_NotCured T.fdI_NotCured ["self", "what"] (sp_initX T.C_NotCured "NotCured") := by
  refine T.FI_NotCured.ok sc_init_NotCured (fun vs H Q E h => ?_) (fun cdv A outer s H vs Q E hr h => ?_)
  · obtain ⟨a, v, rfl, _⟩ := h
    rfl
  · obtain ⟨a, v, rfl, ha, q⟩ := h
    exact ⟨_, pss_cons (ps_ost (pv 0) (pv 1)) (pss_one (ps_ost (pv 0) (pe_cnm (pv 0)))), init_reads T.O_NotCured T.E_NotCured T.N_NotCured ha fun dx h1 h2 => q dx h1 h2⟩
def All.Ps {K : PySem.W.Frag} {mg : Str → Option Value} (T : All K mg) : List Addr := [T.P_p_is_name, T.P_p__can_be_kettles, T.P_p__can_be_moulds]
structure Tabs {K : PySem.W.Frag} {mg : Str → Option Value} (T : All K mg) (base : Heap) : Prop where
  t_p_is_name : GxR.TabB base mg T.c_p_is_name T.P_p_is_name
  t_p__can_be_kettles : GxR.TabB base mg T.c_p__can_be_kettles T.P_p__can_be_kettles
  t_p__can_be_moulds : GxR.TabB base mg T.c_p__can_be_moulds T.P_p__can_be_moulds
end KR
namespace KR
open PySem PySem.Spec PyProof.Rows L2
section
variable {P : Program} {w : World} {K : PySem.W.Frag} {mg : Str → Option Value} {base : Heap}
def sp_l_cell_at (K : PySem.W.Frag) : Sp := fun vs H Q _ => ∃ (a : Addr) (ns : List Int) (k : Int), vs = [.ref a, .int k] ∧ SqL K H a (ns.map V.int) ∧ 0 ≤ k ∧ ∀ z : Int, Q (.int z) H
theorem ok_l_cell_at (T : All K mg) : FnOk P w K mg base CX0 1 T.f_l_cell_at T.fd_l_cell_at ["_law_script", "_law_k"] (sp_l_cell_at K) := by
  refine T.d_l_cell_at.fn.ok sc_l_cell_at (fun vs H Q E h => ?_) (fun cdv A outer s H vs Q E hr h => ?_)
  · obtain ⟨a, ns, k, rfl, _⟩ := h
    rfl
  · obtain ⟨a, ns, k, rfl, hS, h0, q⟩ := h
    refine ⟨_, (pss_cons (ps_if (pt_cmpR op_lt (pv 1) (pe_callB (lenQ (K := K) rfl) (by rfl) T.b_len PySem.boot_len (pa_cons (pv 0) pa_nil)) (nomark _)) (pss_one (ps_ret (pe_ix (ixL (K := K) rfl) (pv 0) (pv 1) (fun _ _ => rfl)))) pss_nil)
      (pss_one (ps_ret pe_int))), ?_⟩
    refine ⟨_, rfl, _, rfl, a, _, rfl, .inl hS, _, _, rfl, rfl, _, rfl, ite2 (fun c => ?_) (fun c => ?_)⟩
    · have c1 : k < ((ns.map V.int).length : Int) := of_decide_eq_true c
      rw [List.length_map] at c1
      refine ⟨_, rfl, _, rfl, a, _, k, _, rfl, rfl, hS, at_of (j := k.toNat) (by omega) (by rw [List.getElem?_map, List.getElem?_eq_getElem (show k.toNat < ns.length by omega)]; rfl), ?_⟩
      exact q _
    · exact q _

end
end KR
namespace KR
open PySem PySem.Spec PyProof.Rows L2
section
variable {P : Program} {w : World} {K : PySem.W.Frag} {mg : Str → Option Value} {base : Heap}
def sp_l_box (K : PySem.W.Frag) : Sp := fun vs H Q _ => ∃ (a : Addr) (ns : List Int) (k : Int), vs = [.ref a, .int k] ∧ SqL K H a (ns.map V.int) ∧ 0 ≤ k ∧ k ≤ 63 ∧ ∀ p H', Same H H' → H p = none → BoxAt H' p 0 → Q (.ref p) H'
theorem ok_l_box (T : All K mg) : FnOk P w K mg base CX0 2 T.f_l_box T.fd_l_box ["_law_script", "_law_k"] (sp_l_box K) := by
  refine T.d_l_box.fn.ok sc_l_box (fun vs H Q E h => ?_) (fun cdv A outer s H vs Q E hr h => ?_)
  · obtain ⟨a, ns, k, rfl, _⟩ := h
    rfl
  · obtain ⟨a, ns, k, rfl, hS, h0, h1, q⟩ := h
    refine ⟨_, (pss_cons (ps_set (i := 2) sc_l_box.nd rfl (by first | exact Or.inl rfl | exact Or.inr rfl) (pe_call (ok_l_cell_at T) hr (by rfl) T.d_l_cell_at.mg T.d_l_cell_at.fn.kp T.d_l_cell_at.b .nil pass0 (pa_cons (pv 0) (pa_cons (pv 1) pa_nil))))
      (pss_one (ps_ret (pe_lstI (pa_cons (pe_op op_mulX (pe_callB call_abs (by rfl) T.b_abs (by decide +kernel) (pa_cons (pv 2) pa_nil)) (pe_callTy call_int1 (by rfl) T.b_int (by decide +kernel) (pa_cons (pe_cmpR op_ge (pe_callB call_abs (by rfl) T.b_abs (by decide +kernel) (pa_cons (pv 2) pa_nil)) (pe_op op_pow pe_int pe_int) (nomark _)) pa_nil))) (pa_cons (pe_op op_add (pe_op op_add (pe_op op_mod (pv 2) pe_int) (pe_op op_mulX pe_int (pv 1))) pe_int) (pa_cons pe_int pa_nil))))))), ?_⟩
    refine ⟨_, rfl, _, rfl, a, ns, k, rfl, hS, h0, fun z => ?_⟩
    refine ⟨_, rfl, _, rfl, _, rfl, _, rfl, _, _, rfl, rfl, ⟨by decide, by decide, by decide⟩, _, _, rfl, rfl, .inr ⟨_, rfl, ?_⟩⟩
    refine ⟨_, _, rfl, rfl, mulR bit_lt, ?_⟩
    refine ⟨_, rfl, _, _, rfl, rfl, (by show (0 : Int) < 2305843009213693951; decide), _, rfl, _, _, rfl, rfl, mulL (by decide), _, _, rfl, rfl, _, _, rfl, rfl, rfl, fun p H1 s1 hp h1 => ?_⟩
    refine q p _ s1 hp ⟨_, _, _, h1, ?_, ?_, ?_, by decide, by decide⟩
    · refine Int.mul_nonneg (by split <;> omega) bit_nn
    · omega
    · omega

end
end KR
namespace KR
open PySem PySem.Spec PyProof.Rows L2
section
variable {P : Program} {w : World} {K : PySem.W.Frag} {mg : Str → Option Value} {base : Heap}
def sp_l_take : Sp := fun vs H Q _ => ∃ (p : Addr) (m : Int) (n : Nat), vs = [.ref p, .int m] ∧ BoxAt H p n ∧ n ≤ 1000000000 ∧ 0 < m ∧ m.natAbs < 2 ^ 200 ∧ ∀ (z : Int) (H' : Hp), 0 ≤ z → z < m → BoxAt H' p (n + 1) → Fr p H H' → Q (.int z) H'
theorem ok_l_take (T : All K mg) : FnOk P w K mg base CX0 1 T.f_l_take T.fd_l_take ["_law_box_here", "_law_many"] sp_l_take := by
  refine T.d_l_take.fn.ok sc_l_take (fun vs H Q E h => ?_) (fun cdv A outer s H vs Q E hr h => ?_)
  · obtain ⟨p, m, n, rfl, _⟩ := h
    rfl
  · obtain ⟨p, m, n, rfl, hB, hn, h0, hm, q⟩ := h
    obtain ⟨a, b, c, hp, ha, hb, hb2, hc, hcn⟩ := hB
    refine ⟨_, (pss_cons (ps_if (pt_cmpR op_gt (pe_ix (ixL (K := K) rfl) (pv 0) pe_int (fun _ _ => rfl)) pe_int (nomark _)) (pss_cons (ps_set (i := 2) sc_l_take.nd rfl (by first | exact Or.inl rfl | exact Or.inr rfl) (pe_op op_mod (pe_ix (ixL (K := K) rfl) (pv 0) pe_int (fun _ _ => rfl)) (pv 1)))
      (pss_cons (ps_asg (pe_op op_fdivW (pe_ix (ixL (K := K) rfl) (pv 0) pe_int (fun _ _ => rfl)) (pv 1)) (pg_sub (pv 0) pe_int set_list))
      (pss_one (ps_ret (pv 2))))) pss_nil)
      (pss_cons (ps_asg (pe_op op_add (pe_ix (ixL (K := K) rfl) (pv 0) pe_int (fun _ _ => rfl)) pe_int) (pg_sub (pv 0) pe_int set_list))
      (pss_cons (ps_set (i := 3) sc_l_take.nd rfl (by first | exact Or.inl rfl | exact Or.inr rfl) (pe_op op_mod (pe_op op_mulX (pe_op op_add (pe_ix (ixL (K := K) rfl) (pv 0) pe_int (fun _ _ => rfl)) (pe_op op_mulX pe_int (pe_ix (ixL (K := K) rfl) (pv 0) pe_int (fun _ _ => rfl)))) (pe_op op_add pe_int (pe_ix (ixL (K := K) rfl) (pv 0) pe_int (fun _ _ => rfl)))) pe_int))
      (pss_cons (ps_set (i := 4) sc_l_take.nd rfl (by first | exact Or.inl rfl | exact Or.inr rfl) (pe_op op_mod (pe_op op_mulX (pe_op op_add (pv 3) (pe_ix (ixL (K := K) rfl) (pv 0) pe_int (fun _ _ => rfl))) (pe_op op_add (pe_op op_mod (pv 3) pe_int) pe_int)) pe_int))
      (pss_one (ps_ret (pe_op op_mod (pe_op op_fdivW (pe_op op_mod (pe_op op_add (pe_op op_mulX (pv 4) pe_int) (pv 3)) pe_int) pe_int) (pv 1)))))))), ?_⟩
    refine ⟨_, rfl, p, _, 0, _, rfl, rfl, SqL.of hp, at0, _, _, rfl, rfl, _, rfl, ite2 (fun c1 => ?_) (fun c1 => ?_)⟩
    · refine ⟨_, rfl, p, _, 0, _, rfl, rfl, SqL.of hp, at0, _, rfl, _, _, rfl, rfl, h0, ?_⟩
      refine ⟨_, rfl, p, _, 0, _, rfl, rfl, SqL.of hp, at0, _, rfl, _, _, rfl, rfl, wide_div h0 hm (by decide) (by decide), ?_⟩
      refine ⟨_, rfl, p, _, 0, 0, rfl, rfl, hp, rfl, ?_⟩
      refine ⟨_, rfl, ?_⟩
      refine q _ _ (Int.emod_nonneg _ (by omega)) (Int.emod_lt_of_pos _ h0) ⟨_, _, _, upd_same, ?_, hb, hb2, hc, by omega⟩ (Fr.put Fr.refl)
      exact Int.ediv_nonneg ha (by omega)
    · refine ⟨_, rfl, p, _, 2, _, rfl, rfl, SqL.of hp, at2, _, _, rfl, rfl, _, rfl, p, _, 2, 2, rfl, rfl, hp, rfl, ?_⟩
      have hp2 : (upd H p (.lst [.int a, .int b, .int (c + 1)])) p = some (.lst [.int a, .int b, .int (c + 1)]) := upd_same
      refine ⟨_, rfl, p, _, 1, _, rfl, rfl, SqL.of hp2, at1, _, rfl, p, _, 2, _, rfl, rfl, SqL.of hp2, at2, _, _, rfl, rfl, mulL (by decide), _, _, rfl, rfl, ?_⟩
      refine ⟨_, rfl, p, _, 2, _, rfl, rfl, SqL.of hp2, at2, _, _, rfl, rfl, _, _, rfl, rfl, mulL (by omega), _, _, rfl, rfl, (by show (0 : Int) < 2147483647; decide), ?_⟩
      generalize e1 : (b + 48271 * (c + 1)) * (39373 + (c + 1)) % 2147483647 = o
      have o1 : 0 ≤ o ∧ o < 2147483647 := by omega
      refine ⟨_, rfl, _, rfl, p, _, 2, _, rfl, rfl, SqL.of hp2, at2, _, _, rfl, rfl, _, rfl, _, _, rfl, rfl, (by show (0 : Int) < 40009; decide), _, _, rfl, rfl, _, _, rfl, rfl, mulL (by omega), _, _, rfl, rfl, (by show (0 : Int) < 2147483629; decide), ?_⟩
      generalize e2 : (o + (c + 1)) * (o % 40009 + 7) % 2147483629 = t
      have t1 : 0 ≤ t ∧ t < 2147483629 := by omega
      refine ⟨_, rfl, _, _, rfl, rfl, mulL (by omega), _, rfl, _, _, rfl, rfl, _, _, rfl, rfl, (by show (0 : Int) < 2147483587; decide), _, _, rfl, rfl, wide_div (b := 10) (by decide) (by decide) (by decide) (by decide), _, rfl, _, _, rfl, rfl, h0, ?_⟩
      exact q _ _ (Int.emod_nonneg _ (by omega)) (Int.emod_lt_of_pos _ h0) ⟨_, _, _, upd_same, ha, hb, hb2, by omega, by omega⟩ (Fr.put Fr.refl)

end
end KR
namespace KR
open PySem PySem.Spec PyProof.Rows L2
section
variable {P : Program} {w : World} {K : PySem.W.Frag} {mg : Str → Option Value} {base : Heap}
theorem ok0_l_low (T : All K mg) : FnOk P w K mg base CX0 1 T.f_l_low T.fd_l_low ["_law_top", "_law_bottom"] sp_lowV := by
  refine T.d_l_low.fn.ok sc_l_low (fun vs H Q E h => ?_) (fun cdv A outer s H vs Q E hr h => ?_)
  · obtain ⟨t, b, rfl, _⟩ := h
    rfl
  · obtain ⟨t, b, rfl, hb, ht, hb2, q⟩ := h
    refine ⟨_, (pss_cons (ps_par (i := 2) (j := 3) (by rfl) sc_l_low.nd rfl rfl (by decide) rfl rfl (pa_cons (pe_callB call_abs (by rfl) T.b_abs (by decide +kernel) (pa_cons (pv 0) pa_nil)) (pa_cons (pe_callB call_abs (by rfl) T.b_abs (by decide +kernel) (pa_cons (pv 1) pa_nil)) pa_nil)) (by rfl))
      (pss_cons (ps_while PassesOwn.never (pt_cmpR op_gt (pv 3) pe_int (nomark _)) (pss_one (ps_par (i := 2) (j := 3) (by rfl) sc_l_low.nd rfl rfl (by decide) rfl rfl (pa_cons (pv 3) (pa_cons (pe_op op_mod (pv 2) (pv 3)) pa_nil)) (by rfl))))
      (pss_one (ps_ret (pe_tupI (pa_cons (pe_op op_mulX (pe_op op_fdivW (pv 0) (pv 2)) (pe_op op_sub pe_int (pe_op op_mulX pe_int (pe_callTy call_int1 (by rfl) T.b_int (by decide +kernel) (pa_cons (pe_cmpR op_lt (pv 1) pe_int (nomark _)) pa_nil))))) (pa_cons (pe_op op_fdivW (pe_callB call_abs (by rfl) T.b_abs (by decide +kernel) (pa_cons (pv 1) pa_nil)) (pv 2)) pa_nil))))))), ?_⟩
    have abs_ : ∀ z : Int, (if z < 0 then -z else z) = (z.natAbs : Int) := fun z => by split <;> omega
    refine ⟨_, rfl, _, rfl, _, rfl, _, rfl, _, _, rfl, ?_⟩
    rw [abs_, abs_]
    refine ⟨fun m σ H' => ∃ x y : Nat, σ = [some (.int t), some (.int b), some (.int x), some (.int y)] ∧ H' = H ∧ Nat.gcd x y = Nat.gcd t.natAbs b.natAbs ∧ m = y, ⟨_, _, _, rfl, rfl, rfl, rfl⟩, ?_⟩
    rintro m σ H' ⟨x, y, rfl, rfl, hg, rfl⟩
    refine ⟨_, rfl, _, _, rfl, rfl, _, rfl, ite2 (fun c => ?_) (fun c => ?_)⟩
    · have c1 : (0 : Int) < m := of_decide_eq_true c
      refine ⟨fun σ' H1 => ∃ x' y' : Nat, σ' = [some (.int t), some (.int b), some (.int x'), some (.int y')] ∧ H1 = H' ∧ Nat.gcd x' y' = Nat.gcd t.natAbs b.natAbs ∧ y' < m, fun σ' H1 ⟨x', y', e1, e2, e3, e4⟩ => ⟨y', e4, x', y', e1, e2, e3, rfl⟩, ?_⟩
      refine ⟨_, rfl, _, rfl, _, rfl, _, _, rfl, rfl, c1, _, _, rfl, ?_⟩
      refine ⟨m, x % m, by rw [Int.natCast_emod]; rfl, rfl, ?_, Nat.mod_lt _ (by omega)⟩
      rw [← hg, Nat.gcd_comm x m, Nat.gcd_rec m x, Nat.gcd_comm]
    · have c1 : ¬ (0 : Int) < m := of_decide_eq_false (Bool.eq_false_iff.mpr c)
      have m0 : m = 0 := by omega
      subst m0
      rw [Nat.gcd_zero_right] at hg
      have x0 : 0 < x := by
        rw [hg]
        exact Nat.gcd_pos_of_pos_right _ (by omega)
      have x1 : (x : Int).natAbs < 2 ^ 8900 := by
        rw [Int.natAbs_natCast, hg]
        exact Nat.lt_of_le_of_lt (Nat.le_of_dvd (by omega) (Nat.gcd_dvd_right _ _)) hb2
      refine ⟨_, rfl, _, rfl, _, _, rfl, rfl, wide_div (b := 8900) (by omega) x1 (by decide) (by decide), _, rfl, _, _, rfl, rfl, .inr ⟨_, rfl, ?_⟩⟩
      refine ⟨_, _, rfl, rfl, mulL (by decide), _, _, rfl, rfl, _, _, rfl, rfl, mulR (by rcases bit_or (c := decide (b < 0) = true) with z | z <;> rw [z] <;> decide), ?_⟩
      refine ⟨_, rfl, _, rfl, _, rfl, _, _, rfl, rfl, wide_div (b := 8900) (by omega) x1 (by decide) (by decide), rfl, fun p H1 s1 hp h1 => ?_⟩
      have e1 : t / (x : Int) * (1 - 2 * (if decide (b < 0) = true then 1 else 0)) = (low t b).1 := by
        unfold low
        rw [hg]
        by_cases z : b < 0
        · rw [if_pos (decide_eq_true z), if_pos z] <;> rfl
        · rw [if_neg (by rw [decide_eq_false z]; exact Bool.false_ne_true), if_neg z] <;> rfl
      have e2 : (if b < 0 then -b else b) / (x : Int) = (low t b).2 := by
        rw [abs_]
        unfold low
        rw [hg]
      refine q p H1 s1 hp ?_
      rw [← e1, ← e2]
      exact h1
theorem ok_l_low (T : All K mg) : FnOk P w K mg base CX0 1 T.f_l_low T.fd_l_low ["_law_top", "_law_bottom"] (sp_lowW K) := (ok0_l_low T).imp fun _ _ _ _ h => lowW h

end
end KR
namespace KR
open PySem PySem.Spec PyProof.Rows L2
section
variable {P : Program} {w : World} {K : PySem.W.Frag} {mg : Str → Option Value} {base : Heap}
theorem ok_l_plus (T : All K mg) : FnOk P w K mg base CX0 2 T.f_l_plus T.fd_l_plus ["_law_one", "_law_other"] (sp_w2 K (fun p q => p + q) (fun _ q => True)) := by
  refine T.d_l_plus.fn.ok sc_l_plus (fun vs H Q E h => ?_) (fun cdv A outer s H vs Q E hr h => ?_)
  · obtain ⟨x, y, p, q, rfl, _⟩ := h
    rfl
  · obtain ⟨x, y, p, q, rfl, hx, hy, zp, zq, hok, k⟩ := h
    have hx' : SqT K H x [.int p.num, .int (p.den : Int)] := hx
    have hy' : SqT K H y [.int q.num, .int (q.den : Int)] := hy
    refine ⟨_, (pss_one (ps_ret (pe_call (ok_l_low T) hr (by rfl) T.d_l_low.mg T.d_l_low.fn.kp T.d_l_low.b .nil pass0 (pa_cons (pe_op op_add (pe_op op_mulX (pe_ix (ixT (K := K) rfl) (pv 0) pe_int (fun _ _ => rfl)) (pe_ix (ixT (K := K) rfl) (pv 1) pe_int (fun _ _ => rfl))) (pe_op op_mulX (pe_ix (ixT (K := K) rfl) (pv 1) pe_int (fun _ _ => rfl)) (pe_ix (ixT (K := K) rfl) (pv 0) pe_int (fun _ _ => rfl)))) (pa_cons (pe_op op_mulX (pe_ix (ixT (K := K) rfl) (pv 0) pe_int (fun _ _ => rfl)) (pe_ix (ixT (K := K) rfl) (pv 1) pe_int (fun _ _ => rfl))) pa_nil))))), ?_⟩
    obtain ⟨a1, a2⟩ := zp
    obtain ⟨b1, b2⟩ := zq
    have hp := den_ne' p
    have hq := den_ne' q
    refine ⟨_, rfl, x, _, 0, _, rfl, rfl, hx', at0, _, rfl, y, _, 1, _, rfl, rfl, hy', at1, _, _, rfl, rfl, mulZ a1 b2 (by omega), _, rfl, y, _, 0, _, rfl, rfl, hy', at0, _, rfl, x, _, 1, _, rfl, rfl, hx', at1, _, _, rfl, rfl, mulZ b1 a2 (by omega), _, _, rfl, rfl, ?_⟩
    refine ⟨_, rfl, x, _, 1, _, rfl, rfl, hx', at1, _, rfl, y, _, 1, _, rfl, rfl, hy', at1, _, _, rfl, rfl, mulZ a2 b2 (by omega), ?_⟩
    refine ⟨_, _, rfl, Int.mul_ne_zero hp hq, lt_up (add_lt (wide_lt a1 b2) (wide_lt b1 a2)) (by omega), lt_up (wide_lt a2 b2) (by omega), ?_⟩
    intro z H' s1 n1 h1
    rw [rq_add] at h1
    exact k z H' s1 n1 h1

end
end KR
namespace KR
open PySem PySem.Spec PyProof.Rows L2
section
variable {P : Program} {w : World} {K : PySem.W.Frag} {mg : Str → Option Value} {base : Heap}
theorem ok_l_by (T : All K mg) : FnOk P w K mg base CX0 2 T.f_l_by T.fd_l_by ["_law_one", "_law_other"] (sp_w2 K (fun p q => p * q) (fun _ q => True)) := by
  refine T.d_l_by.fn.ok sc_l_by (fun vs H Q E h => ?_) (fun cdv A outer s H vs Q E hr h => ?_)
  · obtain ⟨x, y, p, q, rfl, _⟩ := h
    rfl
  · obtain ⟨x, y, p, q, rfl, hx, hy, zp, zq, hok, k⟩ := h
    have hx' : SqT K H x [.int p.num, .int (p.den : Int)] := hx
    have hy' : SqT K H y [.int q.num, .int (q.den : Int)] := hy
    refine ⟨_, (pss_one (ps_ret (pe_call (ok_l_low T) hr (by rfl) T.d_l_low.mg T.d_l_low.fn.kp T.d_l_low.b .nil pass0 (pa_cons (pe_op op_mulX (pe_ix (ixT (K := K) rfl) (pv 0) pe_int (fun _ _ => rfl)) (pe_ix (ixT (K := K) rfl) (pv 1) pe_int (fun _ _ => rfl))) (pa_cons (pe_op op_mulX (pe_ix (ixT (K := K) rfl) (pv 0) pe_int (fun _ _ => rfl)) (pe_ix (ixT (K := K) rfl) (pv 1) pe_int (fun _ _ => rfl))) pa_nil))))), ?_⟩
    obtain ⟨a1, a2⟩ := zp
    obtain ⟨b1, b2⟩ := zq
    have hp := den_ne' p
    have hq := den_ne' q
    refine ⟨_, rfl, x, _, 0, _, rfl, rfl, hx', at0, _, rfl, y, _, 0, _, rfl, rfl, hy', at0, _, _, rfl, rfl, mulZ a1 b1 (by omega), ?_⟩
    refine ⟨_, rfl, x, _, 1, _, rfl, rfl, hx', at1, _, rfl, y, _, 1, _, rfl, rfl, hy', at1, _, _, rfl, rfl, mulZ a2 b2 (by omega), ?_⟩
    refine ⟨_, _, rfl, Int.mul_ne_zero hp hq, lt_up (wide_lt a1 b1) (by omega), lt_up (wide_lt a2 b2) (by omega), ?_⟩
    intro z H' s1 n1 h1
    rw [rq_mul] at h1
    exact k z H' s1 n1 h1

end
end KR
namespace KR
open PySem PySem.Spec PyProof.Rows L2
section
variable {P : Program} {w : World} {K : PySem.W.Frag} {mg : Str → Option Value} {base : Heap}
def sp_l_same (K : PySem.W.Frag) (n : Nat) : Sp := fun vs H Q _ => ∃ (v w : V) (d : PyData), vs = [v, w] ∧ Dk K H n v d ∧ Dk K H n w d ∧ ∀ H', Same H H' → Q (.bl true) H'
/-- how two alike things look: no list and no tuple, or two lists, or two tuples -/
inductive Look2 (K : PySem.W.Frag) (H : Hp) (n : Nat) (v w : V) (d : PyData) : Prop
  | leaf (t : String) (bb bi : Bool) (e : v = w) (ty : TyX K H w (.type t)) (kl : kitB t "list" = some false) (kt : kitB t "tuple" = some false) (kb : kitB t "bool" = some bb) (ki : kitB t "int" = some bi) (dp : Dp K H w d) (sh : SeqAt.shaped d = true)
  | both (t : String) (bl bt : Bool) (a b : Addr) (xs ys : List V) (ds : List PyData) (e1 : v = .ref a) (e2 : w = .ref b) (ty1 : TyX K H v (.type t)) (ty2 : TyX K H w (.type t)) (kl : kitB t "list" = some bl) (kt : kitB t "tuple" = some bt) (kk : bl = false → bt = true)
    (lx : xs.length = ds.length) (ly : ys.length = ds.length) (l9 : xs.length ≤ 100000) (dx : ∀ (i : Nat) (x : V) (d : PyData), xs[i]? = some x → ds[i]? = some d → Dk K H n x d) (dy : ∀ (i : Nat) (x : V) (d : PyData), ys[i]? = some x → ds[i]? = some d → Dk K H n x d)
    (h : (H a = some (.lst xs) ∧ H b = some (.lst ys)) ∨ (SqT K H a xs ∧ SqT K H b ys))
theorem look2 {K : PySem.W.Frag} {H : Hp} {n : Nat} {v w : V} {d : PyData} (h1 : Dk K H (n + 1) v d) (h2 : Dk K H (n + 1) w d) : Look2 K H n v w d := by
  cases h1 with
  | non => cases h2; exact .leaf "NoneType" false false rfl (.base .non) (by decide +kernel) (by decide +kernel) (by decide +kernel) (by decide +kernel) .non rfl
  | bl _ b => cases h2; exact .leaf "bool" true true rfl (.base (.bl b)) (by decide +kernel) (by decide +kernel) (by decide +kernel) (by decide +kernel) (.bl b) rfl
  | int _ i => cases h2; exact .leaf "int" false true rfl (.base (.int i)) (by decide +kernel) (by decide +kernel) (by decide +kernel) (by decide +kernel) (.int i) rfl
  | str _ x ok => cases h2; exact .leaf "str" false false rfl (.base (.str x)) (by decide +kernel) (by decide +kernel) (by decide +kernel) (by decide +kernel) (.str x) (by show (PyData.canLay0 (.str x) && decide (PyData.depth (.str x) ≤ 64)) = true; rw [ok]; rfl)
  | lst a1 a2 a3 a4 =>
    cases h2 with
    | lst b1 b2 b3 b4 => exact .both "list" true false _ _ _ _ _ rfl rfl (.base (.lst a1)) (.base (.lst b1)) (by decide +kernel) (by decide +kernel) (fun z => nomatch z) a2 b2 a3 a4 b4 (.inl ⟨a1, b1⟩)
  | tup a1 a2 a3 a4 =>
    cases h2 with
    | tup b1 b2 b3 b4 => exact .both "tuple" false true _ _ _ _ _ rfl rfl (sqT_ty a1) (sqT_ty b1) (by decide +kernel) (by decide +kernel) (fun _ => rfl) a2 b2 a3 a4 b4 (.inr ⟨a1, b1⟩)
theorem none_l_same {f : Addr} {fd : FuncData} : FnOk P w K mg base CX0 0 f fd ["_law_found", "_law_due"] (sp_l_same K 0) := by
  have no : ∀ vs H Q E, ¬ sp_l_same K 0 vs H Q E := fun vs H Q E h => by
    obtain ⟨v, w, d, _, h1, _⟩ := h
    cases h1
  exact ⟨fun vs H Q E h => absurd h (no vs H Q E), fun A outer s H args us vs Q E _ _ _ _ h => absurd h (no vs H Q E)⟩
theorem step_l_same (T : All K mg) {n : Nat} (ih : FnOk P w K mg base CX0 n T.f_l_same T.fd_l_same ["_law_found", "_law_due"] (sp_l_same K n)) : FnOk P w K mg base CX0 (n + 1) T.f_l_same T.fd_l_same ["_law_found", "_law_due"] (sp_l_same K (n + 1)) := by
  refine T.d_l_same.fn.ok sc_l_same (fun vs H Q E h => ?_) (fun cdv A outer s H vs Q E hr h => ?_)
  · obtain ⟨v, w, d, rfl, _⟩ := h
    rfl
  · obtain ⟨v, w, d, rfl, h1, h2, q⟩ := h
    refine ⟨_, (pss_cons (ps_if (pt_val (pe_callB (isiTK (K := K) rfl) (by rfl) T.b_isinstance (by decide +kernel) (pa_cons (pv 1) (pa_cons (pe_tupI (pa_cons (pe_bltn (v := .ty "list") (by rfl) T.b_list (by decide +kernel) rfl) (pa_cons (pe_bltn (v := .ty "tuple") (by rfl) T.b_tuple (by decide +kernel) rfl) pa_nil))) pa_nil)))) (pss_cons (ps_if (PW.pt (pw_or (pt_cmpR op_ne (pe_callB (isiK (K := K) rfl) (by rfl) T.b_isinstance (by decide +kernel) (pa_cons (pv 0) (pa_cons (pe_bltn (v := .ty "list") (by rfl) T.b_list (by decide +kernel) rfl) pa_nil))) (pe_callB (isiK (K := K) rfl) (by rfl) T.b_isinstance (by decide +kernel) (pa_cons (pv 1) (pa_cons (pe_bltn (v := .ty "list") (by rfl) T.b_list (by decide +kernel) rfl) pa_nil))) (nomark _)) (pw_or1 (pt_cmpR op_ne (pe_callB (isiK (K := K) rfl) (by rfl) T.b_isinstance (by decide +kernel) (pa_cons (pv 0) (pa_cons (pe_bltn (v := .ty "tuple") (by rfl) T.b_tuple (by decide +kernel) rfl) pa_nil))) (pe_callB (isiK (K := K) rfl) (by rfl) T.b_isinstance (by decide +kernel) (pa_cons (pv 1) (pa_cons (pe_bltn (v := .ty "tuple") (by rfl) T.b_tuple (by decide +kernel) rfl) pa_nil))) (nomark _))))) (pss_one (ps_ret pe_bl)) pss_nil)
      (pss_one (ps_ret (pe_and (pe_cmpR op_eq (pe_callB (lenA (K := K) rfl) (by rfl) T.b_len PySem.boot_len (pa_cons (pv 0) pa_nil)) (pe_callB (lenA (K := K) rfl) (by rfl) T.b_len PySem.boot_len (pa_cons (pv 1) pa_nil)) (nomark _)) (pe_one (pe_callB (allK (K := K) rfl rfl) (by rfl) T.b_all (by decide +kernel) (pa_cons (pe_lc (own := [("_law_one", 2), ("_law_other", 3)]) (g := gTup K 2 (gCons (gName 2) (gCons (gName 3) gNil))) (tt := tYes) (by rfl) sc_l_same.nd (pi_zipK (K := K) rfl (by rfl) T.b_zip (pa_cons (pv 0) (pa_cons (pv 1) pa_nil))) (blkOk_by (own := [("_law_one", 2), ("_law_other", 3)]) (N := ["_law_found", "_law_due", "_law_one", "_law_other", "_law_alike"]) (sc := defScope s_l_same) (by decide +kernel)) (fun _ _ _ _ _ => (pg_tupK (K := K) rfl rfl (pgs_cons (pg_name (i := 2) sc_l_same.nd rfl (by first | exact Or.inl rfl | exact Or.inr rfl)) (pgs_cons (pg_name (i := 3) sc_l_same.nd rfl (by first | exact Or.inl rfl | exact Or.inr rfl)) pgs_nil)))) (fun _ _ _ _ _ => pts_nil) (fun _ _ _ _ _ => (pe_call ih hr (by rfl) T.d_l_same.mg T.d_l_same.fn.kp T.d_l_same.b .nil pass0 (pa_cons (pv 2) (pa_cons (pv 3) pa_nil))))) pa_nil))))))) pss_nil)
      (pss_cons (ps_set (i := 4) sc_l_same.nd rfl (by first | exact Or.inl rfl | exact Or.inr rfl) (pe_and (pe_cmpR op_eq (pe_callB (isiK (K := K) rfl) (by rfl) T.b_isinstance (by decide +kernel) (pa_cons (pv 0) (pa_cons (pe_bltn (v := .ty "bool") (by rfl) T.b_bool (by decide +kernel) rfl) pa_nil))) (pe_callB (isiK (K := K) rfl) (by rfl) T.b_isinstance (by decide +kernel) (pa_cons (pv 1) (pa_cons (pe_bltn (v := .ty "bool") (by rfl) T.b_bool (by decide +kernel) rfl) pa_nil))) (nomark _)) (pe_one (pe_cmpR op_eq (pe_callB (isiK (K := K) rfl) (by rfl) T.b_isinstance (by decide +kernel) (pa_cons (pv 0) (pa_cons (pe_bltn (v := .ty "int") (by rfl) T.b_int (by decide +kernel) rfl) pa_nil))) (pe_callB (isiK (K := K) rfl) (by rfl) T.b_isinstance (by decide +kernel) (pa_cons (pv 1) (pa_cons (pe_bltn (v := .ty "int") (by rfl) T.b_int (by decide +kernel) rfl) pa_nil))) (nomark _)))))
      (pss_one (ps_ret (pe_and (pv 4) (pe_one (pe_cmpR (eqDK (K := K) rfl hr.units) (pv 0) (pv 1) (nomark _)))))))), ?_⟩
    refine ⟨_, rfl, rfl, fun tp H1 s1 htp htp2 => ?_⟩
    have lk : Look2 K H1 n v w d := look2 (h1.same s1) (h2.same s1)
    cases lk with
    | leaf t bb bi e ty kl kt kb ki dp sh =>
      subst e
      refine ⟨_, tp, _, _, [.type "list", .type "tuple"], false, rfl, htp2, .cons (.ty _) (.cons (.ty _) .nil), ty, kitAny_cons (kit_ty kl) (fun _ => kitAny_cons (kit_ty kt) (fun _ => rfl) (fun z => nomatch z)) (fun z => nomatch z), false, rfl, iteF ?_⟩
      refine ⟨_, rfl, _, _, _, _, _, rfl, .ty _, ty, kit_ty kb, _, rfl, _, _, _, _, _, rfl, .ty _, ty, kit_ty kb, rfl, _, rfl, ?_⟩
      rw [decide_eq_true rfl]
      refine iteT ?_
      refine ⟨_, rfl, _, _, _, _, _, rfl, .ty _, ty, kit_ty ki, _, rfl, _, _, _, _, _, rfl, .ty _, ty, kit_ty ki, rfl, ?_⟩
      rw [decide_eq_true rfl]
      refine ⟨_, rfl, _, rfl, iteT ?_⟩
      refine ⟨_, rfl, _, rfl, d, d, dp, dp, sh, sh, ?_⟩
      rw [SeqAt.eqv_refl _ (SeqAt.canLay_of_shaped sh)]
      exact q _ s1
    | both t bl bt a b xs ys ds e1 e2 ty1 ty2 kl kt kk lx ly l9 dx dy hab =>
      subst e1 e2
      refine ⟨_, tp, _, _, [.type "list", .type "tuple"], true, rfl, htp2, .cons (.ty _) (.cons (.ty _) .nil), ty2, kitAny_cons (kit_ty kl) (fun z => kitAny_cons (kit_ty kt) (fun y => nomatch (kk z).symm.trans y) (fun _ => rfl)) (fun _ => rfl), true, rfl, iteT ?_⟩
      refine ⟨_, rfl, _, _, _, _, _, rfl, .ty _, ty1, kit_ty kl, _, rfl, _, _, _, _, _, rfl, .ty _, ty2, kit_ty kl, rfl, _, rfl, ?_⟩
      rw [decide_eq_true rfl]
      refine iteF ?_
      refine ⟨_, rfl, _, _, _, _, _, rfl, .ty _, ty1, kit_ty kt, _, rfl, _, _, _, _, _, rfl, .ty _, ty2, kit_ty kt, rfl, _, rfl, ?_⟩
      rw [decide_eq_true rfl]
      refine iteF ?_
      have hlen : ∀ (c : Addr) (zs : List V), (H1 c = some (.lst zs) ∨ SqT K H1 c zs) → LenV K (.ref c) H1 zs.length := fun c zs h => by
        rcases h with h | h
        · exact .inl ⟨_, SqL.of h, rfl⟩
        · exact .inr ⟨_, h, rfl⟩
      refine ⟨_, rfl, _, _, rfl, hlen a xs (hab.imp (·.1) (·.1)), _, rfl, _, _, rfl, hlen b ys (hab.imp (·.2) (·.2)), rfl, _, rfl, ?_⟩
      have el : decide (V.int (xs.length : Int) = V.int (ys.length : Int)) = true := decide_eq_true (by rw [lx, ly])
      rw [el]
      refine iteT ?_
      -- the turns of zip
      have turn : ∀ (D : Addr) (H2 : Hp) (i : Nat) (T0 : Addr), H1 D = none → i < xs.length → Same H1 H2 → H2 D = some (.lst (List.replicate i (.bl true))) → H2 T0 = none →
          sp_l_same K n [xs.getD i .non, ys.getD i .non] (upd H2 T0 (.tup [xs.getD i .non, ys.getD i .non])) (fun y H4 => ∃ acc, H4 D = some (.lst acc) ∧ acc.length < sizeLine ∧ (Same H1 (upd H4 D (.lst (acc ++ [y]))) ∧ (upd H4 D (.lst (acc ++ [y]))) D = some (.lst (List.replicate (i + 1) (.bl true))))) E0 := by
        intro D H2 i T0 hD hi sm hd hT
        have sT : Same H2 (upd H2 T0 (.tup [xs.getD i .non, ys.getD i .non])) := same_new hT
        have gx := getD_of hi
        have gy := getD_of (show i < ys.length by omega)
        have gd : ds[i]? = some ds[i] := List.getElem?_eq_getElem (by omega)
        refine ⟨_, _, ds[i], rfl, (dx i _ _ gx gd).same (sm.trans sT), (dy i _ _ gy gd).same (sm.trans sT), fun H4 s4 => ?_⟩
        refine ⟨_, s4 _ _ (sT _ _ hd), by rw [List.length_replicate]; exact small' (by omega), Same.put ((sm.trans sT).trans s4) hD, ?_⟩
        rw [upd_same, List.replicate_succ'] <;> rfl
      refine ⟨_, rfl, _, rfl, a, b, xs, ys, rfl, ?_⟩
      have fin : ∀ (D : Addr) (H2 : Hp), Same H1 H2 ∧ H2 D = some (.lst (List.replicate xs.length (.bl true))) → ∃ (a : Addr) (bs : List Bool), [V.ref D] = [V.ref a] ∧ SqL K H2 a (bs.map V.bl) ∧ Q (.bl (bs.all id)) H2 := fun D H2 ⟨sm, hd⟩ => by
        obtain ⟨t1, t2⟩ := all_true xs.length
        refine ⟨D, List.replicate xs.length true, rfl, SqL.of (by rw [t1]; exact hd), ?_⟩
        rw [t2]
        exact q H2 (s1.trans sm)
      rcases hab with ⟨ha, hb⟩ | ⟨ha, hb⟩
      · refine .inl ⟨SqL.of ha, SqL.of hb, fun D hD => ?_⟩
        refine lc_pair (n := xs.length) (St := fun H2 => SqL K H2 a xs ∧ SqL K H2 b ys) (fun i H2 => zipL_go rfl (by omega)) (fun H2 => zipL_stop rfl) (fun i H2 v H3 => zipL_yld rfl (by omega))
          (fun i H2 => Same H1 H2 ∧ H2 D = some (.lst (List.replicate i (.bl true)))) ⟨same_new hD, upd_same⟩ (fun i H2 _ z => ⟨SqL.of (z.1 _ _ ha), SqL.of (z.1 _ _ hb)⟩) (fun i T0 H2 hi z hT => ?_) (fun H2 z => fin D H2 z)
        refine ⟨T0, _, rfl, SqT.of upd_same, rfl, _, _, rfl, _, _, rfl, rfl, rfl, yesT ?_⟩
        exact ⟨_, rfl, _, rfl, turn D H2 i T0 hD hi z.1 z.2 hT⟩
      · refine .inr ⟨ha, hb, fun D hD => ?_⟩
        refine lc_pair (n := xs.length) (St := fun H2 => SqT K H2 a xs ∧ SqT K H2 b ys) (fun i H2 => zipT_go rfl (by omega)) (fun H2 => zipT_stop rfl) (fun i H2 v H3 => zipT_yld rfl (by omega))
          (fun i H2 => Same H1 H2 ∧ H2 D = some (.lst (List.replicate i (.bl true)))) ⟨same_new hD, upd_same⟩ (fun i H2 _ z => ⟨Same.tup z.1 ha, Same.tup z.1 hb⟩) (fun i T0 H2 hi z hT => ?_) (fun H2 z => fin D H2 z)
        refine ⟨T0, _, rfl, SqT.of upd_same, rfl, _, _, rfl, _, _, rfl, rfl, rfl, yesT ?_⟩
        exact ⟨_, rfl, _, rfl, turn D H2 i T0 hD hi z.1 z.2 hT⟩
theorem ok_l_same (T : All K mg) : FnOk P w K mg base CX0 8 T.f_l_same T.fd_l_same ["_law_found", "_law_due"] (sp_l_same K 8) := by
  have go : ∀ n, FnOk P w K mg base CX0 n T.f_l_same T.fd_l_same ["_law_found", "_law_due"] (sp_l_same K n) := fun n => by
    induction n with
    | zero => exact none_l_same
    | succ n ih => exact step_l_same T ih
  exact go _

end
end KR
namespace KR
open PySem PySem.Spec PyProof.Rows L2
section
variable {P : Program} {w : World} {K : PySem.W.Frag} {mg : Str → Option Value} {base : Heap}
/-! ### texts of small letters -/
structure Lo (n : Nat) (y : Str) : Prop where
  len : y.length ≤ n
  az : ∀ c ∈ TL.tl y, 97 ≤ c ∧ c ≤ 122
theorem Lo.app {n m : Nat} {x y : Str} (h : Lo n x) (k : Lo m y) : Lo (n + m) (x ++ y) := by
  have e : TL.tl (x ++ y) = TL.tl x ++ TL.tl y := TL.tl_append x y
  refine ⟨?_, fun c hc => ?_⟩
  · rw [TL.len_tl, e, List.length_append, ← TL.len_tl, ← TL.len_tl]
    exact Nat.add_le_add h.len k.len
  · rw [e] at hc
    exact (List.mem_append.mp hc).elim (h.az c) (k.az c)
theorem Lo.up {n m : Nat} {y : Str} (h : Lo n y) (le : n ≤ m) : Lo m y := ⟨Nat.le_trans h.len le, h.az⟩
theorem Lo.two {n m : Nat} {x y : Str} (h : Lo n x) (k : Lo m y) (le : n + m ≤ 100000 := by decide) : x.length + y.length ≤ sizeLine := small (Nat.le_trans (Nat.add_le_add h.len k.len) le)
theorem Lo.one {c : Nat} (h : 97 ≤ c ∧ c ≤ 122) : Lo 1 (S [c]) := ⟨Nat.le_refl 1, fun d hd => by rw [List.mem_singleton.mp hd]; exact h⟩
theorem Lo.of {l : List Nat} {n : Nat} (h : l.length ≤ n) (k : ∀ c ∈ l, 97 ≤ c ∧ c ≤ 122) : Lo n (S l) := ⟨by rw [S_len]; exact h, k⟩
theorem lo_rep {c m : Nat} (hc : 97 ≤ c ∧ c ≤ 122) (hm : m < 6) : Lo 5 (Txt.mul (S [c]) (m : Int)) := by
  have all : ∀ (l : List Nat), (∀ d ∈ l, d = c) → ∀ d ∈ l, 97 ≤ d ∧ d ≤ 122 := fun l h d hd => by rw [h d hd]; exact hc
  have ms : m = 0 ∨ m = 1 ∨ m = 2 ∨ m = 3 ∨ m = 4 ∨ m = 5 := by omega
  rcases ms with rfl | rfl | rfl | rfl | rfl | rfl
  · exact (show Lo 5 (S []) from Lo.of (by decide) (all _ (by simp)))
  · exact (show Lo 5 (S [c]) from Lo.of (by show 1 ≤ 5; decide) (all _ (by simp)))
  · exact (show Lo 5 (S [c, c]) from Lo.of (by show 2 ≤ 5; decide) (all _ (by simp)))
  · exact (show Lo 5 (S [c, c, c]) from Lo.of (by show 3 ≤ 5; decide) (all _ (by simp)))
  · exact (show Lo 5 (S [c, c, c, c]) from Lo.of (by show 4 ≤ 5; decide) (all _ (by simp)))
  · exact (show Lo 5 (S [c, c, c, c, c]) from Lo.of (by show 5 ≤ 5; decide) (all _ (by simp)))
abbrev lets : Str := "abcdefghijklmnoprstuvwxyz"
/-- a letter by its place -/
def lt (i : Nat) : Nat := (lets.cps.toList[i]?).getD 97
theorem lt_inj : ∀ i, i < 25 → ∀ j, j < 25 → lt i = lt j → i = j := by decide +kernel
theorem lt_az (i : Nat) : 97 ≤ lt i ∧ lt i ≤ 122 := by
  have al : ∀ c ∈ lets.cps.toList, 97 ≤ c ∧ c ≤ 122 := by decide +kernel
  unfold lt
  cases e : lets.cps.toList[i]? with
  | none => exact ⟨by decide, by decide⟩
  | some c => exact al c (List.mem_of_getElem? e)
theorem let_lt {y : Int} (h0 : 0 ≤ y) (h1 : y < 25) : atI lets.cps.toList y = some (lt y.toNat) := by
  obtain ⟨k, rfl⟩ : ∃ k : Nat, y = (k : Int) := ⟨y.toNat, by omega⟩
  have hl : lets.cps.toList.length = 25 := by decide +kernel
  have e : lets.cps.toList[k]? = some (lets.cps.toList[k]'(by omega)) := List.getElem?_eq_getElem (by omega)
  refine (atI_nat (j := k) e).trans ?_
  rw [Int.toNat_natCast]
  unfold lt
  rw [e] <;> rfl
theorem lets_len : lets.length ≤ sizeLine := small (by decide +kernel)
/-- the name of a number below 625 -/
def nmOf (stem : Str) (v : Int) : Str := stem ++ S [lt (v / 25).toNat] ++ S [lt (v % 25).toNat]
theorem nmOf_inj {stem : Str} {v u : Int} (v0 : 0 ≤ v) (v1 : v < 625) (u0 : 0 ≤ u) (u1 : u < 625) (e : nmOf stem v = nmOf stem u) : v = u := by
  have e1 := congrArg TL.tl e
  unfold nmOf at e1
  rw [TL.tl_append, TL.tl_append, TL.tl_append, TL.tl_append, List.append_assoc, List.append_assoc] at e1
  have e2 := List.append_cancel_left e1
  have e3 : [lt (v / 25).toNat, lt (v % 25).toNat] = [lt (u / 25).toNat, lt (u % 25).toNat] := e2
  rw [List.cons.injEq, List.cons.injEq] at e3
  have a1 := lt_inj _ (by omega) _ (by omega) e3.1
  have a2 := lt_inj _ (by omega) _ (by omega) e3.2.1
  omega
/-- the number of turn k -/
def vAt (a st : Int) (k : Nat) : Int := (a + st * (k : Int)) % 625
theorem vAt_box (a st : Int) (k : Nat) : 0 ≤ vAt a st k ∧ vAt a st k < 625 := ⟨Int.emod_nonneg _ (by decide), Int.emod_lt_of_pos _ (by decide)⟩
theorem vAt_inj {a st : Int} (h : st = 1 ∨ st = 26 ∨ st = 7 ∨ st = 251) {i j : Nat} (hi : i < 48) (hj : j < 48) (e : vAt a st i = vAt a st j) : i = j := by
  unfold vAt at e
  rcases h with rfl | rfl | rfl | rfl <;> omega
theorem nodup_sub_len : ∀ {l m : List Str}, l.Nodup → (∀ x ∈ l, x ∈ m) → l.length ≤ m.length
  | [], m, _, _ => Nat.zero_le _
  | x :: l, m, h, s => by
    have hx := s x List.mem_cons_self
    rw [List.nodup_cons] at h
    have r := nodup_sub_len (m := m.erase x) h.2 fun y hy => (List.mem_erase_of_ne (fun z : y = x => h.1 (z ▸ hy))).mpr (s y (List.mem_cons_of_mem _ hy))
    rw [List.length_erase_of_mem hx] at r
    have := List.length_pos_of_mem hx
    rw [List.length_cons]
    omega
theorem names_nodup {stem : Str} {a st : Int} (h : st = 1 ∨ st = 26 ∨ st = 7 ∨ st = 251) : ∀ n, n ≤ 48 → ((List.range n).map fun k => nmOf stem (vAt a st k)).Nodup := by
  intro n hn
  refine List.pairwise_map.mpr (List.Pairwise.imp_of_mem (fun {i j} hi hj ne e => ne ?_) (List.nodup_range (n := n)))
  exact vAt_inj h (by have := List.mem_range.mp hi; omega) (by have := List.mem_range.mp hj; omega) (nmOf_inj (vAt_box ..).1 (vAt_box ..).2 (vAt_box ..).1 (vAt_box ..).2 e)
theorem keys_dd : ∀ (l : List Str) (kvs : List (Key × V)) (acc : List Str), kvs.map (·.1) = acc.map (Sum.inr : Str → Key) → ((mergeK kvs (l.map fun y => ((Sum.inr y : Key), V.bl true))).map (·.1)) = (dd acc l).map (Sum.inr : Str → Key)
  | [], kvs, acc, h => h
  | x :: l, kvs, acc, h => by
    have mem : (kvs.any fun kv => decide (kv.1 = (Sum.inr x : Key))) = true ↔ x ∈ acc := by
      have m1 : (Sum.inr x : Key) ∈ kvs.map (·.1) ↔ x ∈ acc := by
        rw [h, List.mem_map]
        exact ⟨fun ⟨y, hy, e⟩ => by cases e; exact hy, fun hy => ⟨x, hy, rfl⟩⟩
      rw [← m1, List.any_eq_true, List.mem_map]
      exact ⟨fun ⟨y, hy, e⟩ => ⟨y, hy, of_decide_eq_true e⟩, fun ⟨y, hy, e⟩ => ⟨y, hy, decide_eq_true e⟩⟩
    have step : (putK kvs (Sum.inr x : Key) (V.bl true)).map (·.1) = (if x ∈ acc then acc else acc ++ [x]).map (Sum.inr : Str → Key) := by
      unfold putK
      by_cases c : x ∈ acc
      · rw [if_pos (mem.mpr c), if_pos c, ← h, List.map_map]
        refine List.map_congr_left fun y _ => ?_
        show (if y.1 = Sum.inr x then (y.1, V.bl true) else y).1 = y.1
        split <;> rfl
      · rw [if_neg (fun z => c (mem.mp z)), if_neg c, List.map_append, List.map_append, h] <;> rfl
    exact keys_dd l _ _ step
theorem keys_dist (l : List Str) : ((mergeK [] (l.map fun y => ((Sum.inr y : Key), V.bl true))).map fun kv => kV kv.1) = (dist l).map V.str := by
  have e := congrArg (List.map kV) (keys_dd l [] [] rfl)
  rw [List.map_map, List.map_map] at e
  exact e
theorem cut_take {xs : List V} {n : Nat} (h : n ≤ xs.length) : cutV xs none (some (n : Int)) = xs.take n := by
  unfold cutV
  rw [HT.sIx_none, HT.sIx_nat, List.drop_zero, Nat.sub_zero, Nat.min_eq_left h]
theorem pairs_of {K : PySem.W.Frag} {H : Hp} : ∀ (l : List (Addr × Str)), (∀ z ∈ l, H z.1 = some (.tup [.str z.2, .bl true])) → Paired (fun p (kv : Key × V) => SqT K H p [kV kv.1, kv.2]) (l.map (·.1)) (l.map fun z => (Sum.inr z.2, V.bl true))
  | [], _ => .nil
  | z :: l, h => .cons (SqT.of (h z List.mem_cons_self)) (pairs_of l fun y hy => h y (List.mem_cons_of_mem _ hy))
def sp_l_names : Sp := fun vs H Q _ => ∃ (p : Addr) (n many : Nat), vs = [.ref p, .int many] ∧ 1 ≤ many ∧ many ≤ 48 ∧ BoxAt H p n ∧ n ≤ 999990000 ∧ ∀ (l : Addr) (ts : List Str) (H' : Hp), H' l = some (.lst (ts.map V.str)) → ts.length = many → ts.Nodup → (∀ y ∈ ts, Nm y) → BoxAt H' p (n + 6) → Fr p H H' → Q (.ref l) H'
theorem ok_l_names (T : All K mg) : FnOk P w K mg base CX0 2 T.f_l_names T.fd_l_names ["_law_box_here", "_law_many"] sp_l_names := by
  refine T.d_l_names.fn.ok sc_l_names (fun vs H Q E h => ?_) (fun cdv A outer s H vs Q E hr h => ?_)
  · obtain ⟨p, n, many, rfl, _⟩ := h
    rfl
  · obtain ⟨p, n, many, rfl, hm1, hm2, hB, hn, q⟩ := h
    refine ⟨_, (pss_cons (ps_par (i := 2) (j := 3) (by rfl) sc_l_names.nd rfl rfl (by decide) rfl rfl (pa_cons pe_str (pa_cons (pe_lstI pa_nil) pa_nil)) (by rfl))
      (pss_cons (ps_J (ps_if (pt_cmpR op_eq (pe_call (ok_l_take T) hr (by rfl) T.d_l_take.mg T.d_l_take.fn.kp T.d_l_take.b .nil pass0 (pa_cons (pv 0) (pa_cons pe_int pa_nil))) pe_int (nomark _)) (pss_cons (ps_set (i := 4) sc_l_names.nd rfl (by first | exact Or.inl rfl | exact Or.inr rfl) pe_str)
      (pss_one (ps_set (i := 3) sc_l_names.nd rfl (by first | exact Or.inl rfl | exact Or.inr rfl) (pe_split (pe_op op_add_str (pv 4) pe_str) pe_str)))) pss_nil))
      (pss_cons (ps_par (i := 5) (j := 6) (by rfl) sc_l_names.nd rfl rfl (by decide) rfl rfl (pa_cons (pe_call (ok_l_take T) hr (by rfl) T.d_l_take.mg T.d_l_take.fn.kp T.d_l_take.b .nil pass0 (pa_cons (pv 0) (pa_cons pe_int pa_nil))) (pa_cons (pe_ix (ixL (K := K) rfl) (pe_lstI (pa_cons pe_int (pa_cons pe_int (pa_cons pe_int (pa_cons pe_int pa_nil))))) (pe_call (ok_l_take T) hr (by rfl) T.d_l_take.mg T.d_l_take.fn.kp T.d_l_take.b .nil pass0 (pa_cons (pv 0) (pa_cons pe_int pa_nil))) (fun _ _ => rfl)) pa_nil)) (by rfl))
      (pss_cons (ps_par (i := 7) (j := 8) (by rfl) sc_l_names.nd rfl rfl (by decide) rfl rfl (pa_cons (pe_op op_mul_str (pe_ix ix_str (pv 2) (pe_call (ok_l_take T) hr (by rfl) T.d_l_take.mg T.d_l_take.fn.kp T.d_l_take.b .nil pass0 (pa_cons (pv 0) (pa_cons pe_int pa_nil))) (fun _ _ => rfl)) (pe_call (ok_l_take T) hr (by rfl) T.d_l_take.mg T.d_l_take.fn.kp T.d_l_take.b .nil pass0 (pa_cons (pv 0) (pa_cons pe_int pa_nil)))) (pa_cons (pe_ix ix_str (pv 2) (pe_call (ok_l_take T) hr (by rfl) T.d_l_take.mg T.d_l_take.fn.kp T.d_l_take.b .nil pass0 (pa_cons (pv 0) (pa_cons pe_int pa_nil))) (fun _ _ => rfl)) pa_nil)) (by rfl))
      (pss_cons (ps_for PassesOwn.never rfl (pi_range1 (by rfl) T.b_range (pa_cons (pv 1) pa_nil)) (pg_name (i := 9) sc_l_names.nd rfl (by first | exact Or.inl rfl | exact Or.inr rfl)) (pss_cons (ps_asg (pe_callB call_divmodW (by rfl) T.b_divmod (by decide +kernel) (pa_cons (pe_op op_mod (pe_op op_add (pv 5) (pe_op op_mulX (pv 6) (pv 9))) pe_int) (pa_cons pe_int pa_nil))) (pg_tupK (K := K) rfl rfl (pgs_cons (pg_name (i := 10) sc_l_names.nd rfl (by first | exact Or.inl rfl | exact Or.inr rfl)) (pgs_cons (pg_name (i := 11) sc_l_names.nd rfl (by first | exact Or.inl rfl | exact Or.inr rfl)) pgs_nil))))
      (pss_cons (ps_set (i := 12) sc_l_names.nd rfl (by first | exact Or.inl rfl | exact Or.inr rfl) (pe_op op_add_str (pe_op op_add_str (pv 7) (pe_ix ix_str (pv 2) (pv 10) (fun _ _ => rfl))) (pe_ix ix_str (pv 2) (pv 11) (fun _ _ => rfl))))
      (pss_one (ps_expr (pe_bm PySem.F.plainAttrs_list PySem.F.slot_list_extend PySem.F.type_list_extend mt_extend (pv 3) (pa_cons (pe_slice (slL (K := K) rfl) (pe_lstI (pa_cons (pv 12) (pa_cons (pe_op op_add_str (pv 12) (pv 8)) pa_nil))) po_none (po_some (pe_op op_add pe_int (pe_callTy call_int1 (by rfl) T.b_int (by decide +kernel) (pa_cons (pe_cmpR op_eq (pe_op op_mod (pv 9) pe_int) pe_int (nomark _)) pa_nil))))) pa_nil)))))))
      (pss_one (ps_ret (pe_slice (slL (K := K) rfl) (pe_callTy (call_listD rfl) (by rfl) T.b_list (by decide +kernel) (pa_cons (pe_callTy (call_dictP rfl) (by rfl) T.b_dict (by decide +kernel) (pa_cons (pe_lc (own := [("_law_name", 12)]) (g := gName 12) (tt := tYes) (by rfl) sc_l_names.nd (pi_listK (K := K) rfl (pv 3)) (blkOk_by (own := [("_law_name", 12)]) (N := ["_law_box_here", "_law_many", "_law_letters", "_law_found", "_law_words", "_law_first", "_law_step", "_law_stem", "_law_tail", "_law_k", "_law_one", "_law_other", "_law_name"]) (sc := defScope s_l_names) (by decide +kernel)) (fun _ _ _ _ _ => (pg_name (i := 12) sc_l_names.nd rfl (by first | exact Or.inl rfl | exact Or.inr rfl))) (fun _ _ _ _ _ => pts_nil) (fun _ _ _ _ _ => (pe_tupI (pa_cons (pv 12) (pa_cons pe_bl pa_nil))))) pa_nil)) pa_nil)) po_none (po_some (pv 1)))))))))), ?_⟩
    refine ⟨rfl, fun fl0 H1 s1 n1 h1 => ⟨_, _, rfl, ?_⟩⟩
    have B1 := hB.same s1
    refine ⟨fun σ H3 => ∃ (fl2 : Addr) (u4 : Option V) (ts : List Str), σ = [some (.ref p), some (.int many), some (.str lets), some (.ref fl2), u4, none, none, none, none, none, none, none, none] ∧ H3 fl2 = some (.lst (ts.map V.str)) ∧ (∀ y ∈ ts, Nm y) ∧ ts.length ≤ 16 ∧ BoxAt H3 p (n + 1) ∧ Fr p H H3 ∧ fl2 ≠ p ∧ H fl2 = none, ?_, ?_⟩
    case' refine_2 =>
      refine ⟨_, rfl, p, 3, n, rfl, B1, by omega, by decide, by decide, fun z H2 z0 z1 B2 F2 => ⟨rfl, _, rfl, ?_⟩⟩
      by_cases hz : z = 0
      · refine ite_iT hz ?_
        refine ⟨_, rfl, _, _, rfl, rfl, small (by decide +kernel), ⟨_, rfl⟩, _, _, rfl, rfl, rfl, small (by decide +kernel), fun fl hfl => ?_⟩
        have sm := same_new (o := .lst ((Txt.split (("kettle mould at juice ladle skim stop start strike drain knock drips" : Str) ++ (" untell vat sums never" : Str)) (" " : Str)).map V.str)) hfl
        have lg : ∀ y ∈ Txt.split (("kettle mould at juice ladle skim stop start strike drain knock drips" : Str) ++ (" untell vat sums never" : Str)) (" " : Str), 1 ≤ y.length ∧ y.length ≤ 8 ∧ ∀ c ∈ TL.tl y, 97 ≤ c ∧ c ≤ 122 := by decide +kernel
        have ll : (Txt.split (("kettle mould at juice ladle skim stop start strike drain knock drips" : Str) ++ (" untell vat sums never" : Str)) (" " : Str)).length ≤ 16 := by decide +kernel
        obtain ⟨ob, ho⟩ := B2.some
        exact ⟨fl, _, _, rfl, upd_same, fun y hy => ⟨(lg y hy).1, (lg y hy).2.1, (lg y hy).2.2⟩, ll, B2.same sm, ((Fr.of s1).trans F2).trans (.of sm), B2.new hfl, s1.free (F2.free ho hfl)⟩
      · refine ite_iF hz ?_
        exact ⟨fl0, none, [], rfl, F2 _ _ (hB.new n1) h1, fun y hy => absurd hy List.not_mem_nil, Nat.zero_le _, B2, (Fr.of s1).trans F2, hB.new n1, n1⟩
    rintro σ H3 ⟨fl2, u4, ts, rfl, hg2, its, lts, B3, F03, nfl, nof⟩
    refine ⟨_, rfl, p, 625, n + 1, rfl, B3, by omega, by decide, by decide, fun a H4 a0 a1 B4 F4 => ?_⟩
    refine ⟨rfl, fun ls H5 s5 n5 h5 => ?_⟩
    have B5 := B4.same s5
    have nls := B4.new n5
    refine ⟨_, rfl, p, 4, n + 2, rfl, B5, by omega, by decide, by decide, fun way H6 k0 k1 B6 F6 => ?_⟩
    obtain ⟨st, es, st9⟩ : ∃ st : Int, atI ([.int 1, .int 26, .int 7, .int 251] : List V) way = some (.int st) ∧ (st = 1 ∨ st = 26 ∨ st = 7 ∨ st = 251) := by
      have ks : way = 0 ∨ way = 1 ∨ way = 2 ∨ way = 3 := by omega
      rcases ks with e | e | e | e <;> subst e
      · exact ⟨_, rfl, .inl rfl⟩
      · exact ⟨_, rfl, .inr (.inl rfl)⟩
      · exact ⟨_, rfl, .inr (.inr (.inl rfl))⟩
      · exact ⟨_, rfl, .inr (.inr (.inr rfl))⟩
    refine ⟨ls, _, way, _, rfl, rfl, SqL.of (F6 _ _ nls h5), es, ?_⟩
    refine ⟨_, _, rfl, ?_⟩
    refine ⟨_, rfl, _, rfl, p, 25, n + 3, rfl, B6, by omega, by decide, by decide, fun u H7 u0 u1 B7 F7 => ?_⟩
    refine ⟨_, _, _, rfl, rfl, lets_len, let_lt u0 u1, ?_⟩
    refine ⟨_, rfl, p, 6, n + 4, rfl, B7, by omega, by decide, by decide, fun v H8 v0 v1 B8 F8 => ?_⟩
    obtain ⟨m, rfl⟩ : ∃ m : Nat, v = (m : Int) := ⟨v.toNat, by omega⟩
    refine ⟨_, m, rfl, rfl, by show 1 * m ≤ 100000; omega, by omega, ?_⟩
    have gst : Lo 5 (Txt.mul (S [lt u.toNat]) (m : Int)) := lo_rep (lt_az _) (by omega)
    have est : Txt.mul ⟨#[lt u.toNat]⟩ (m : Int) = Txt.mul (S [lt u.toNat]) (m : Int) := rfl
    rw [est]
    generalize Txt.mul (S [lt u.toNat]) (m : Int) = stem at gst
    refine ⟨_, rfl, _, rfl, p, 25, n + 5, rfl, B8, by omega, by decide, by decide, fun u' H9 u0' u1' B9 F9 => ?_⟩
    refine ⟨_, _, _, rfl, rfl, lets_len, let_lt u0' u1', ?_⟩
    refine ⟨_, _, rfl, ?_⟩
    have gtl : Lo 1 (S [lt u'.toNat]) := Lo.one (lt_az _)
    have F39 : Fr p H3 H9 := F4.trans ((Fr.of s5).trans (F6.trans (F7.trans (F8.trans F9))))
    have hf9 := F39 _ _ nfl hg2
    refine ⟨_, rfl, many, rfl, by omega, by omega, for_range (lo := 0) (n := many) (fun i σ H' => ∃ (ts' : List Str) (v8 v9 v10 v11 : Option V), σ = [some (.ref p), some (.int many), some (.str lets), some (.ref fl2), u4, some (.int a), some (.int st), some (.str stem), some (.str (S [lt u'.toNat])), v8, v9, v10, v11] ∧ H' fl2 = some (.lst (ts'.map V.str)) ∧ (∀ y ∈ ts', Nm y) ∧ ts'.length ≤ 16 + 2 * i ∧ (∀ j, j < i → nmOf stem (vAt a st j) ∈ ts') ∧ BoxAt H' p (n + 6) ∧ Fr p H H')
      ⟨ts, none, none, none, none, rfl, hf9, fun y hy => its y hy, by omega, fun j hj => absurd hj (Nat.not_lt_zero j), B9, F03.trans F39⟩ ?_ ?_⟩
    · rintro i σ Ha hi ⟨ts', v8, v9, v10, v11, rfl, hfa, gta, lta, ina, Ba, Fa⟩
      refine ⟨_, rfl, _, rfl, _, rfl, _, _, rfl, rfl, mulL (by omega), _, _, rfl, rfl, _, _, rfl, rfl, (by show (0 : Int) < 625; decide), ?_⟩
      have e0 : (a + st * (0 + (i : Int))) % 625 = vAt a st i := by rw [Int.zero_add] <;> rfl
      have X0 : 0 ≤ ((a + st * (0 + (i : Int))) % 625) := Int.emod_nonneg _ (by decide)
      have X1 : ((a + st * (0 + (i : Int))) % 625) < 625 := Int.emod_lt_of_pos _ (by decide)
      refine ⟨_, _, rfl, ⟨by decide, PyProof.noPylong_of_log2 (by decide +kernel)⟩, fun dp hdp => ?_⟩
      have smd := same_new (o := .tup [.int (((a + st * (0 + (i : Int))) % 625) / 25), .int (((a + st * (0 + (i : Int))) % 625) % 25)]) hdp
      refine ⟨dp, _, rfl, SqT.of upd_same, rfl, _, _, rfl, _, _, rfl, rfl, ?_⟩
      have y0 : 0 ≤ ((a + st * (0 + (i : Int))) % 625) / 25 := Int.ediv_nonneg X0 (by decide)
      have y1 : ((a + st * (0 + (i : Int))) % 625) / 25 < 25 := by omega
      have w0 : 0 ≤ ((a + st * (0 + (i : Int))) % 625) % 25 := by omega
      have w1 : ((a + st * (0 + (i : Int))) % 625) % 25 < 25 := by omega
      have g3 : Lo 1 (S [lt (((a + st * (0 + (i : Int))) % 625) / 25).toNat]) := Lo.one (lt_az _)
      have g4 : Lo 1 (S [lt (((a + st * (0 + (i : Int))) % 625) % 25).toNat]) := Lo.one (lt_az _)
      have gn := (gst.app g3).app g4
      refine ⟨_, rfl, _, rfl, _, rfl, _, _, _, rfl, rfl, lets_len, let_lt y0 y1, _, _, rfl, rfl, Lo.two gst g3, _, rfl, _, rfl, _, _, _, rfl, rfl, lets_len, let_lt w0 w1, _, _, rfl, rfl, Lo.two (gst.app g3) g4, ?_⟩
      have hfb := smd _ _ hfa
      refine ⟨_, rfl, .inl ⟨rfl, _, SqL.of hfb⟩, ?_⟩
      refine ⟨_, rfl, _, rfl, _, rfl, _, _, rfl, rfl, Lo.two gn gtl, rfl, fun sl Hb sb nb hb => ?_⟩
      refine ⟨_, rfl, _, _, rfl, rfl, (by show (0 : Int) < 4; decide), rfl, .inr ⟨_, rfl, _, _, rfl, rfl, _, rfl, ?_⟩⟩
      have n2 : ∀ y : Str, Lo 8 y → 2 ≤ y.length → Nm y := fun y h l => ⟨by omega, h.len, h.az⟩
      have en : stem ++ S [lt (((a + st * (0 + (i : Int))) % 625) / 25).toNat] ++ S [lt (((a + st * (0 + (i : Int))) % 625) % 25).toNat] = nmOf stem (vAt a st i) := by rw [← e0] <;> rfl
      have l2 : ∀ y : Str, 2 ≤ (stem ++ S [lt (((a + st * (0 + (i : Int))) % 625) / 25).toNat] ++ S [lt (((a + st * (0 + (i : Int))) % 625) % 25).toNat] ++ y).length := fun y => by
        rw [TL.len_tl, TL.tl_append, TL.tl_append, TL.tl_append, List.length_append, List.length_append, List.length_append]
        show 2 ≤ _ + 1 + 1 + _
        omega
      have l3 : 2 ≤ (stem ++ S [lt (((a + st * (0 + (i : Int))) % 625) / 25).toNat] ++ S [lt (((a + st * (0 + (i : Int))) % 625) % 25).toNat]).length := by
        rw [TL.len_tl, TL.tl_append, TL.tl_append, List.length_append, List.length_append]
        show 2 ≤ _ + 1 + 1
        omega
      have l4 := gn.app gtl
      refine ⟨sl, _, rfl, SqL.of hb, fun p2 Hc sc nc hc => ?_⟩
      have pick : ∀ b : Bool, ∃ zs : List Str, cutV [V.str (stem ++ S [lt (((a + st * (0 + (i : Int))) % 625) / 25).toNat] ++ S [lt (((a + st * (0 + (i : Int))) % 625) % 25).toNat]), V.str ((stem ++ S [lt (((a + st * (0 + (i : Int))) % 625) / 25).toNat] ++ S [lt (((a + st * (0 + (i : Int))) % 625) % 25).toNat]) ++ S [lt u'.toNat])] none (some (1 + (if b = true then (1 : Int) else 0))) = zs.map V.str ∧ (stem ++ S [lt (((a + st * (0 + (i : Int))) % 625) / 25).toNat] ++ S [lt (((a + st * (0 + (i : Int))) % 625) % 25).toNat]) ∈ zs ∧ zs.length ≤ 2 ∧ ∀ y ∈ zs, Nm y := fun b => by
        have m1 : Nm (stem ++ S [lt (((a + st * (0 + (i : Int))) % 625) / 25).toNat] ++ S [lt (((a + st * (0 + (i : Int))) % 625) % 25).toNat]) := n2 (stem ++ S [lt (((a + st * (0 + (i : Int))) % 625) / 25).toNat] ++ S [lt (((a + st * (0 + (i : Int))) % 625) % 25).toNat]) (gn.up (by decide)) l3
        have m2 : Nm ((stem ++ S [lt (((a + st * (0 + (i : Int))) % 625) / 25).toNat] ++ S [lt (((a + st * (0 + (i : Int))) % 625) % 25).toNat]) ++ S [lt u'.toNat]) := n2 _ l4 (l2 _)
        cases b
        · exact ⟨[(stem ++ S [lt (((a + st * (0 + (i : Int))) % 625) / 25).toNat] ++ S [lt (((a + st * (0 + (i : Int))) % 625) % 25).toNat])], rfl, List.mem_singleton.mpr rfl, by show 1 ≤ 2; decide, fun y hy => by rw [List.mem_singleton.mp hy]; exact m1⟩
        · refine ⟨[(stem ++ S [lt (((a + st * (0 + (i : Int))) % 625) / 25).toNat] ++ S [lt (((a + st * (0 + (i : Int))) % 625) % 25).toNat]), (stem ++ S [lt (((a + st * (0 + (i : Int))) % 625) / 25).toNat] ++ S [lt (((a + st * (0 + (i : Int))) % 625) % 25).toNat]) ++ S [lt u'.toNat]], rfl, List.mem_cons_self, Nat.le_refl 2, fun y hy => ?_⟩
          rcases List.mem_cons.mp hy with e | e
          · rw [e]
            exact m1
          · rw [List.mem_singleton.mp e]
            exact m2
      obtain ⟨zs, ez, inz, lz, az⟩ := pick _
      have hc2 : Hc p2 = some (.lst (zs.map V.str)) := hc.trans (congrArg (fun l => some (HO.lst l)) ez)
      refine ⟨fl2, p2, _, _, rfl, rfl, sc _ _ (sb _ _ hfb), hc2, ?_, ?_⟩
      · rw [List.length_map, List.length_map]
        exact small (by omega)
      have sE := smd.trans (sb.trans sc)
      refine ⟨ts' ++ zs, _, _, _, _, rfl, ?_, fun y hy => (List.mem_append.mp hy).elim (gta y) (az y), by rw [List.length_append]; omega, fun j hj => ?_, (Ba.same sE).upd nfl, Fr.put' (Fa.trans (.of sE)) nof⟩
      · rw [upd_same, List.map_append] <;> rfl
      · by_cases c : j = i
        · rw [c, ← en]
          exact List.mem_append_right _ inz
        · exact List.mem_append_left _ (ina j (by omega))
    · rintro σ Ha ⟨ts', v8, v9, v10, v11, rfl, hfa, gta, lta, ina, Ba, Fa⟩
      refine ⟨_, rfl, fl2, rfl, ⟨_, SqL.of hfa⟩, fun D hD => ?_⟩
      refine lc_list (K := K) (a := fl2) (xs := ts'.map V.str) (fun i H' => ∃ l : List (Addr × Str), Same Ha H' ∧ H' D = some (.lst (l.map fun z => V.ref z.1)) ∧ l.map (·.2) = ts'.take i ∧ ∀ z ∈ l, H' z.1 = some (.tup [.str z.2, .bl true])) ⟨[], same_new hD, upd_same, rfl, fun z hz => absurd hz List.not_mem_nil⟩ (fun i H' _ ⟨_, sm, _⟩ => SqL.of (sm _ _ hfa)) (fun i z H' hz w => ?_) ?_
      · obtain ⟨l, sm, hl, el, al⟩ := w
        rw [List.getElem?_map] at hz
        cases e : ts'[i]? with
        | none =>
          rw [e] at hz
          cases hz
        | some y =>
          rw [e] at hz
          obtain rfl : V.str y = z := Option.some.inj hz
          have i30 : i < 112 := by
            have := (List.getElem?_eq_some_iff.mp e).1
            omega
          refine ⟨rfl, yesT ?_⟩
          refine ⟨_, rfl, rfl, fun tp Hb sa na ha => ?_⟩
          have hla := sa _ _ hl
          have ll2 : l.length ≤ 112 := by
            have := congrArg List.length el
            rw [List.length_map, List.length_take] at this
            omega
          refine ⟨_, hla, by rw [List.length_map]; exact small' (by omega), l ++ [(tp, y)], Same.put (sm.trans sa) hD, by rw [upd_same, List.map_append] <;> rfl, by rw [List.map_append, el, take_one e] <;> rfl, fun u hu => ?_⟩
          have keep : ∀ c xs, Hb c = some (.tup xs) → (upd Hb D (.lst ((l.map fun z => V.ref z.1) ++ [V.ref tp]))) c = some (.tup xs) := fun c xs e => by
            rw [upd_ne (ne_of e hla (by intro z; cases z))]
            exact e
          rcases List.mem_append.mp hu with h | h
          · exact keep _ _ (sa _ _ (al u h))
          · obtain rfl := List.mem_singleton.mp h
            exact keep _ _ ha
      rintro Hb ⟨l, sm, hl, el, al⟩
      rw [List.length_map, List.take_length] at el
      have hl2 : Hb D = some (.lst ((l.map (·.1)).map V.ref)) := by
        rw [hl, List.map_map] <;> rfl
      refine ⟨D, _, _, rfl, SqL.of hl2, pairs_of l al, fun dd hdd => ?_⟩
      have s2 := same_new (o := .dK (mergeK [] (l.map fun z => (Sum.inr z.2, V.bl true)))) hdd
      refine ⟨dd, _, rfl, .inl upd_same, fun lk hlk => ?_⟩
      have ek2 : (mergeK [] (l.map fun z => ((Sum.inr z.2 : Key), V.bl true))).map (fun kv => kV kv.1) = (dist ts').map V.str := by
        rw [← el, ← keys_dist, List.map_map] <;> rfl
      have many_le : many ≤ (dist ts').length := by
        have nd := names_nodup (stem := stem) (a := a) st9 many hm2
        have r := nodup_sub_len (m := dist ts') nd fun x hx => by
          obtain ⟨j, hj, rfl⟩ := List.mem_map.mp hx
          exact mem_dist.mpr (ina j (List.mem_range.mp hj))
        rw [List.length_map, List.length_range] at r
        exact r
      refine ⟨_, rfl, _, rfl, lk, _, rfl, SqL.of upd_same, fun r Hz sz nz hz => ?_⟩
      have hz2 : Hz r = some (.lst (((dist ts').take many).map V.str)) := by
        refine hz.trans (congrArg (fun l => some (HO.lst l)) ?_)
        rw [ek2, cut_take (by rw [List.length_map]; exact many_le), List.map_take]
      have sE := sm.trans (s2.trans ((same_new hlk).trans sz))
      exact q r _ Hz hz2 (by rw [List.length_take, Nat.min_eq_left many_le]) ((List.take_sublist _ _).nodup (dist_nodup ts')) (fun y hy => gta y (mem_dist.mp (List.mem_of_mem_take hy))) (Ba.same sE) (Fa.trans (.of sE))

end
end KR
namespace KR
open PySem PySem.Spec PyProof.Rows L2
section
variable {P : Program} {w : World} {K : PySem.W.Frag} {mg : Str → Option Value} {base : Heap}
def sp_p_is_number (K : PySem.W.Frag) : Sp := fun vs H Q _ => ∃ (p : Addr) (n : Nat) (v : V) (d : PyData), vs = [v] ∧ Dj K p H n v d ∧ Q (.bl (isNumD d)) H
theorem ok_p_is_number (T : All K mg) : FnOk P w K mg base CX0 1 T.f_p_is_number T.fd_p_is_number ["thing"] (sp_p_is_number K) := by
  refine T.d_p_is_number.fn.ok sc_p_is_number (fun vs H Q E h => ?_) (fun cdv A outer s H vs Q E hr h => ?_)
  · obtain ⟨p, n, v, d, rfl, _⟩ := h
    rfl
  · obtain ⟨p, n, v, d, rfl, hd, q⟩ := h
    refine ⟨_, (pss_one (ps_ret (pe_and (pe_callB (isiK (K := K) rfl) (by rfl) T.b_isinstance (by decide +kernel) (pa_cons (pv 0) (pa_cons (pe_bltn (v := .ty "int") (by rfl) T.b_int (by decide +kernel) rfl) pa_nil))) (pe_one (pe_not (pe_callB (isiK (K := K) rfl) (by rfl) T.b_isinstance (by decide +kernel) (pa_cons (pv 0) (pa_cons (pe_bltn (v := .ty "bool") (by rfl) T.b_bool (by decide +kernel) rfl) pa_nil)))))))), ?_⟩
    obtain ⟨t, k⟩ := hd.kinds
    refine ⟨_, rfl, _, _, _, _, _, rfl, .ty _, k.ty, kit_ty k.int, _, rfl, ?_⟩
    unfold isNumD at q
    cases c : isIntD d with
    | false =>
      rw [c] at q
      exact iteF q
    | true =>
      rw [c] at q
      refine iteT ?_
      refine ⟨_, rfl, _, _, _, _, _, rfl, .ty _, k.ty, kit_ty k.bool, _, rfl, ?_⟩
      exact q
def sp_q_is_number : Sp := fun vs H Q _ => ∃ n : Int, vs = [.int n] ∧ Q (.bl true) H
theorem okq_p_is_number (T : All K mg) : FnOk P w K mg base CX0 1 T.f_p_is_number T.fd_p_is_number ["thing"] sp_q_is_number := by
  refine T.d_p_is_number.fn.ok sc_p_is_number (fun vs H Q E h => ?_) (fun cdv A outer s H vs Q E hr h => ?_)
  · obtain ⟨n, rfl, _⟩ := h
    rfl
  · obtain ⟨n, rfl, q⟩ := h
    refine ⟨_, (pss_one (ps_ret (pe_and (pe_callB (isiK (K := K) rfl) (by rfl) T.b_isinstance (by decide +kernel) (pa_cons (pv 0) (pa_cons (pe_bltn (v := .ty "int") (by rfl) T.b_int (by decide +kernel) rfl) pa_nil))) (pe_one (pe_not (pe_callB (isiK (K := K) rfl) (by rfl) T.b_isinstance (by decide +kernel) (pa_cons (pv 0) (pa_cons (pe_bltn (v := .ty "bool") (by rfl) T.b_bool (by decide +kernel) rfl) pa_nil)))))))), ?_⟩
    refine ⟨_, rfl, _, _, _, _, _, rfl, .ty _, .base (.int n), kit_ty (show kitB "int" "int" = some true by decide +kernel), _, rfl, ?_⟩
    refine iteT ?_
    refine ⟨_, rfl, _, _, _, _, _, rfl, .ty _, .base (.int n), kit_ty (show kitB "int" "bool" = some false by decide +kernel), _, rfl, ?_⟩
    exact q

end
end KR
namespace KR
open PySem PySem.Spec PyProof.Rows L2
section
variable {P : Program} {w : World} {K : PySem.W.Frag} {mg : Str → Option Value} {base : Heap}
def sp_p_is_number_within : Sp := fun vs H Q _ => ∃ (i l m : Int), vs = [.int i, .int l, .int m] ∧ l ≤ i ∧ i ≤ m ∧ i.natAbs < 2 ^ 200 ∧ Q (.bl true) H
theorem ok_p_is_number_within (T : All K mg) : FnOk P w K mg base CX0 2 T.f_p_is_number_within T.fd_p_is_number_within ["thing", "least", "most"] sp_p_is_number_within := by
  refine T.d_p_is_number_within.fn.ok sc_p_is_number_within (fun vs H Q E h => ?_) (fun cdv A outer s H vs Q E hr h => ?_)
  · obtain ⟨i, l, m, rfl, _⟩ := h
    rfl
  · obtain ⟨i, l, m, rfl, h1, h2, z, q⟩ := h
    refine ⟨_, (pss_one (ps_ret (pe_and (pe_call (ok_p_is_number T) hr (by rfl) T.d_p_is_number.mg T.d_p_is_number.fn.kp T.d_p_is_number.b .nil pass0 (pa_cons (pv 0) pa_nil)) (pe_one (pe_chain op_le op_le (pv 1) (pv 0) (pv 2)))))), ?_⟩
    refine ⟨_, rfl, 0, 1, _, _, rfl, .int 0 i z, _, rfl, ?_⟩
    refine iteT ?_
    refine ⟨_, rfl, _, rfl, _, _, rfl, rfl, _, rfl, ?_⟩
    refine ite_bT (decide_eq_true h1) ?_
    refine ⟨_, rfl, _, _, rfl, rfl, ?_⟩
    show Q (.bl (decide (i ≤ m))) H
    rw [decide_eq_true h2]
    exact q

end
end KR
namespace KR
open PySem PySem.Spec PyProof.Rows L2
section
variable {P : Program} {w : World} {K : PySem.W.Frag} {mg : Str → Option Value} {base : Heap}
def sp_p_is_frac (K : PySem.W.Frag) : Sp := fun vs H Q _ => ∃ (p : Addr) (n : Nat) (v : V) (d : PyData), vs = [v] ∧ Dj K p H n v d ∧ Q (.bl (isFracD d)) H
theorem ok_p_is_frac (T : All K mg) : FnOk P w K mg base CX0 2 T.f_p_is_frac T.fd_p_is_frac ["thing"] (sp_p_is_frac K) := by
  refine T.d_p_is_frac.fn.ok sc_p_is_frac (fun vs H Q E h => ?_) (fun cdv A outer s H vs Q E hr h => ?_)
  · obtain ⟨p, n, v, d, rfl, _⟩ := h
    rfl
  · obtain ⟨p, n, v, d, rfl, hd, q⟩ := h
    refine ⟨_, (pss_cons (ps_if (PW.pt (pw_or (pt_not (pt_val (pe_callB (isiK (K := K) rfl) (by rfl) T.b_isinstance (by decide +kernel) (pa_cons (pv 0) (pa_cons (pe_bltn (v := .ty "tuple") (by rfl) T.b_tuple (by decide +kernel) rfl) pa_nil))))) (pw_or1 (pt_cmpR op_ne (pe_callB (lenQ (K := K) rfl) (by rfl) T.b_len PySem.boot_len (pa_cons (pv 0) pa_nil)) pe_int (nomark _))))) (pss_one (ps_ret pe_bl)) pss_nil)
      (pss_cons (ps_asg (pv 0) (pg_tupK (K := K) rfl rfl (pgs_cons (pg_name (i := 1) sc_p_is_frac.nd rfl (by first | exact Or.inl rfl | exact Or.inr rfl)) (pgs_cons (pg_name (i := 2) sc_p_is_frac.nd rfl (by first | exact Or.inl rfl | exact Or.inr rfl)) pgs_nil))))
      (pss_cons (ps_if (PW.pt (pw_or (pt_not (pt_val (pe_call (ok_p_is_number T) hr (by rfl) T.d_p_is_number.mg T.d_p_is_number.fn.kp T.d_p_is_number.b .nil pass0 (pa_cons (pv 1) pa_nil)))) (pw_or1 (pt_not (pt_val (pe_call (ok_p_is_number T) hr (by rfl) T.d_p_is_number.mg T.d_p_is_number.fn.kp T.d_p_is_number.b .nil pass0 (pa_cons (pv 2) pa_nil))))))) (pss_one (ps_ret pe_bl)) pss_nil)
      (pss_one (ps_ret (pe_and (pe_cmpR op_gt (pv 2) pe_int (nomark _)) (pe_one (pe_cmpR op_eq (pe_callBfun cr_gcd (by rfl) T.m_gcd (pa_cons (pv 1) (pa_cons (pv 2) pa_nil))) pe_int (nomark _))))))))), ?_⟩
    obtain ⟨t, k⟩ := hd.kinds
    refine ⟨_, rfl, _, _, _, _, _, rfl, .ty _, k.ty, kit_ty k.tup, _, rfl, ?_⟩
    cases hd with
    | tup h1 h2 h3 h4 =>
      rename_i n a xs ds
      refine iteF ?_
      refine ⟨_, rfl, a, xs, rfl, .inr h1, rfl, _, rfl, ?_⟩
      by_cases two : xs.length = 2
      · refine ite_nF (by omega) ?_
        match xs, ds, two, h2, h1, h3, h4 with
        | [x, y], [dx, dy], _, _, h1, h3, h4 =>
          have X := h4 0 x dx rfl rfl
          have Y := h4 1 y dy rfl rfl
          refine ⟨_, rfl, a, _, rfl, h1, rfl, _, _, rfl, _, _, rfl, rfl, ?_⟩
          refine ⟨_, rfl, p, n, x, dx, rfl, X, _, rfl, ?_⟩
          cases c1 : isNumD dx with
          | false =>
            rw [frac_no (.inl c1)] at q
            exact iteT (iteT q)
          | true =>
            refine iteF ?_
            refine ⟨_, rfl, p, n, y, dy, rfl, Y, _, rfl, ?_⟩
            cases c2 : isNumD dy with
            | false =>
              rw [frac_no (.inr c2)] at q
              exact iteT q
            | true =>
              refine iteF ?_
              obtain ⟨i, rfl, rfl, _⟩ := dj_num X c1
              obtain ⟨j, rfl, rfl, _⟩ := dj_num Y c2
              refine ⟨_, rfl, _, _, rfl, rfl, _, rfl, ?_⟩
              have q' : Q (.bl (decide (0 < j) && decide (Nat.gcd i.natAbs j.natAbs = 1))) H := q
              by_cases pos : 0 < j
              · rw [decide_eq_true pos] at q'
                refine ite_bT (decide_eq_true pos) ?_
                refine ⟨_, rfl, _, rfl, _, _, rfl, rfl, ?_⟩
                have e : decide (V.int ((Nat.gcd i.natAbs j.natAbs : Nat) : Int) = V.int 1) = decide (Nat.gcd i.natAbs j.natAbs = 1) := by
                  by_cases z : Nat.gcd i.natAbs j.natAbs = 1
                  · rw [decide_eq_true z, z] <;> rfl
                  · rw [decide_eq_false z, decide_eq_false fun y => z (by have := V.int.inj y; omega)]
                rw [e]
                exact q'
              · rw [decide_eq_false pos] at q'
                exact ite_bF (decide_eq_false pos) q'
      · refine ite_nT (by omega) ?_
        rw [frac_len (by omega)] at q
        exact q
    | non => exact iteT q
    | bl => exact iteT q
    | int => exact iteT q
    | str => exact iteT q
    | lst => exact iteT q
def sp_q_is_frac (K : PySem.W.Frag) : Sp := fun vs H Q _ => ∃ (x : Addr) (a b : Int), vs = [.ref x] ∧ SqT K H x [.int a, .int b] ∧ IsLow a b ∧ Q (.bl true) H
theorem okq_p_is_frac (T : All K mg) : FnOk P w K mg base CX0 2 T.f_p_is_frac T.fd_p_is_frac ["thing"] (sp_q_is_frac K) := by
  refine T.d_p_is_frac.fn.ok sc_p_is_frac (fun vs H Q E h => ?_) (fun cdv A outer s H vs Q E hr h => ?_)
  · obtain ⟨x, a, b, rfl, _⟩ := h
    rfl
  · obtain ⟨x, a, b, rfl, hx, lo, q⟩ := h
    refine ⟨_, (pss_cons (ps_if (PW.pt (pw_or (pt_not (pt_val (pe_callB (isiK (K := K) rfl) (by rfl) T.b_isinstance (by decide +kernel) (pa_cons (pv 0) (pa_cons (pe_bltn (v := .ty "tuple") (by rfl) T.b_tuple (by decide +kernel) rfl) pa_nil))))) (pw_or1 (pt_cmpR op_ne (pe_callB (lenQ (K := K) rfl) (by rfl) T.b_len PySem.boot_len (pa_cons (pv 0) pa_nil)) pe_int (nomark _))))) (pss_one (ps_ret pe_bl)) pss_nil)
      (pss_cons (ps_asg (pv 0) (pg_tupK (K := K) rfl rfl (pgs_cons (pg_name (i := 1) sc_p_is_frac.nd rfl (by first | exact Or.inl rfl | exact Or.inr rfl)) (pgs_cons (pg_name (i := 2) sc_p_is_frac.nd rfl (by first | exact Or.inl rfl | exact Or.inr rfl)) pgs_nil))))
      (pss_cons (ps_if (PW.pt (pw_or (pt_not (pt_val (pe_call (okq_p_is_number T) hr (by rfl) T.d_p_is_number.mg T.d_p_is_number.fn.kp T.d_p_is_number.b .nil pass0 (pa_cons (pv 1) pa_nil)))) (pw_or1 (pt_not (pt_val (pe_call (okq_p_is_number T) hr (by rfl) T.d_p_is_number.mg T.d_p_is_number.fn.kp T.d_p_is_number.b .nil pass0 (pa_cons (pv 2) pa_nil))))))) (pss_one (ps_ret pe_bl)) pss_nil)
      (pss_one (ps_ret (pe_and (pe_cmpR op_gt (pv 2) pe_int (nomark _)) (pe_one (pe_cmpR op_eq (pe_callBfun cr_gcd (by rfl) T.m_gcd (pa_cons (pv 1) (pa_cons (pv 2) pa_nil))) pe_int (nomark _))))))))), ?_⟩
    refine ⟨_, rfl, _, _, _, _, _, rfl, .ty _, sqT_ty hx, kit_ty (show kitB "tuple" "tuple" = some true by decide +kernel), _, rfl, ?_⟩
    refine iteF ?_
    refine ⟨_, rfl, x, _, rfl, .inr hx, rfl, _, rfl, ?_⟩
    refine ite_nF rfl ?_
    refine ⟨_, rfl, x, _, rfl, hx, rfl, _, _, rfl, _, _, rfl, rfl, ?_⟩
    refine ⟨_, rfl, a, rfl, _, rfl, iteF ?_⟩
    refine ⟨_, rfl, b, rfl, _, rfl, iteF ?_⟩
    refine ⟨_, rfl, _, _, rfl, rfl, _, rfl, ?_⟩
    refine ite_bT (decide_eq_true lo.pos) ?_
    refine ⟨_, rfl, _, rfl, _, _, rfl, rfl, ?_⟩
    have e : decide (V.int ((Nat.gcd a.natAbs b.natAbs : Nat) : Int) = V.int 1) = true := by
      rw [lo.cop] <;> rfl
    rw [e]
    exact q

end
end KR
namespace KR
open PySem PySem.Spec PyProof.Rows L2
section
variable {P : Program} {w : World} {K : PySem.W.Frag} {mg : Str → Option Value} {base : Heap}
def sp_p_is_name (P : Addr) : Sp := fun vs H Q _ => ∃ x : Str, vs = [.str x] ∧ Nm x ∧ GxR.TabG H P ∧ ∀ H', Sm H H' → Q (.bl true) H'
theorem le_sign {a b : Nat} (h : a ≤ b) : (!decide ([b] < [a])) = true := by
  rw [Bool.not_eq_true', decide_eq_false_iff_not, List.cons_lt_cons_iff]
  rintro (z | ⟨_, z⟩)
  · omega
  · exact absurd z (by simp)
theorem ok_p_is_name (T : All K mg) (B : Tabs T base) : FnOk P w K mg base CX0 1 T.f_p_is_name T.fd_p_is_name ["thing"] (sp_p_is_name T.P_p_is_name) := by
  refine T.k_p_is_name.ok sc_p_is_name (fun vs H Q E h => ?_) (fun cdv A outer s H vs Q E hc hr h => ?_)
  · obtain ⟨x, rfl, _⟩ := h
    rfl
  · obtain ⟨x, rfl, nm, hT, q⟩ := h
    refine ⟨_, (pss_cons (ps_if (PW.pt (pw_or (pt_not (pt_val (pe_callB (isiK (K := K) rfl) (by rfl) T.b_isinstance (by decide +kernel) (pa_cons (pv 0) (pa_cons (pe_bltn (v := .ty "str") (by rfl) T.b_str (by decide +kernel) rfl) pa_nil))))) (pw_or1 (pt_not (pt_chain op_le op_le pe_int (pe_callB call_len_str (by rfl) T.b_len PySem.boot_len (pa_cons (pv 0) pa_nil)) (pe_glob (v := .int 8) rfl T.c_MOST_LETTERS ⟨_, rfl⟩)))))) (pss_one (ps_ret pe_bl)) pss_nil)
      (pss_one (ps_ret (pe_allG hr (by rfl) T.b_all (by decide +kernel) B.t_p_is_name hc ⟨rfl, rfl, by decide +kernel, by decide +kernel, rfl, rfl⟩ (pi_str (pv 0)) (fun _ _ _ _ _ _ => (pe_chain op_le_str op_le_str pe_str (pv 0) pe_str)) (by intro _; rfl))))), ?_⟩
    refine ⟨_, rfl, _, _, _, _, _, rfl, .ty _, .base (.str x), kit_ty (show kitB "str" "str" = some true by decide +kernel), _, rfl, ?_⟩
    refine iteF ?_
    refine ⟨_, rfl, _, rfl, small (by have := nm.hi; omega), _, _, rfl, rfl, _, rfl, ?_⟩
    refine ite_bT (decide_eq_true (by have := nm.lo; omega)) ?_
    refine ⟨_, _, rfl, rfl, _, rfl, ?_⟩
    rw [decide_eq_true (show ((x.length : Nat) : Int) ≤ 8 by have := nm.hi; omega)]
    refine iteF ?_
    refine ⟨_, rfl, x, rfl, hT, x.length, fun i H' => Sm H H' ∧ i ≤ x.length, fun H2 tb => ⟨Sm.tabbed tb hT, Nat.zero_le _⟩, fun i H2 ⟨sm, le⟩ => ?_⟩
    by_cases c : x.cps.size ≤ i
    · exact .inl ⟨c, q H2 sm⟩
    · refine .inr ⟨by show i < x.cps.size; omega, by show i < x.cps.size; omega, fun y H3 ⟨e3, z, hz, ey⟩ => ?_⟩
      subst e3 ey
      have az := nm.az z (by
        rw [← Array.getElem?_toList] at hz
        exact List.mem_of_getElem? hz)
      refine ⟨_, rfl, _, _, rfl, rfl, _, rfl, ?_⟩
      refine ite_bT (le_sign az.1) ?_
      refine ⟨_, _, rfl, rfl, _, rfl, ?_⟩
      refine ite_bT (le_sign az.2) ⟨sm, by show i + 1 ≤ x.cps.size; omega⟩

end
end KR
namespace KR
open PySem PySem.Spec PyProof.Rows L2
section
variable {P : Program} {w : World} {K : PySem.W.Frag} {mg : Str → Option Value} {base : Heap}
def sp_p_are_unlike (K : PySem.W.Frag) : Sp := fun vs H Q _ => ∃ (l : Addr) (xs : List Str), vs = [.ref l] ∧ SqL K H l (xs.map V.str) ∧ xs.length < 4000 ∧ xs.Nodup ∧ Q (.bl true) H
theorem ok_p_are_unlike (T : All K mg) : FnOk P w K mg base CX0 1 T.f_p_are_unlike T.fd_p_are_unlike ["names"] (sp_p_are_unlike K) := by
  refine T.d_p_are_unlike.fn.ok sc_p_are_unlike (fun vs H Q E h => ?_) (fun cdv A outer s H vs Q E hr h => ?_)
  · obtain ⟨l, xs, rfl, _⟩ := h
    rfl
  · obtain ⟨l, xs, rfl, hl, few, nd, q⟩ := h
    refine ⟨_, (pss_one (ps_ret (pe_cmpR op_eq (pe_lenSetS (K := K) rfl (by rfl) T.b_len (by rfl) T.b_set (pv 0)) (pe_callB (lenQ (K := K) rfl) (by rfl) T.b_len PySem.boot_len (pa_cons (pv 0) pa_nil)) (nomark _)))), ?_⟩
    refine ⟨_, rfl, l, xs, rfl, hl, few, _, rfl, l, _, rfl, .inl hl, ?_⟩
    refine ⟨rfl, ?_⟩
    rw [dist_len.mpr nd, List.length_map, decide_eq_true rfl]
    exact q

end
end KR
namespace KR
open PySem PySem.Spec PyProof.Rows L2
section
variable {P : Program} {w : World} {K : PySem.W.Frag} {mg : Str → Option Value} {base : Heap}
def sp_p__are_name_and_room (P : Addr) : Sp := fun vs H Q _ => ∃ (x : Str) (r : Int), vs = [.str x, .int r] ∧ Nm x ∧ 1 ≤ r ∧ r ≤ 1000000 ∧ GxR.TabG H P ∧ ∀ H', Sm H H' → Q (.bl true) H'
theorem ok_p__are_name_and_room (T : All K mg) (B : Tabs T base) : FnOk P w K mg base CX0 3 T.f_p__are_name_and_room T.fd_p__are_name_and_room ["name", "room"] (sp_p__are_name_and_room T.P_p_is_name) := by
  refine T.d_p__are_name_and_room.fn.ok sc_p__are_name_and_room (fun vs H Q E h => ?_) (fun cdv A outer s H vs Q E hr h => ?_)
  · obtain ⟨x, r, rfl, _⟩ := h
    rfl
  · obtain ⟨x, r, rfl, nm, r0, r1, hT, q⟩ := h
    refine ⟨_, (pss_one (ps_ret (pe_and (pe_call (ok_p_is_name T B) (hr.mono (by decide)) (by rfl) T.d_p_is_name.mg T.d_p_is_name.fn.kp T.d_p_is_name.b .nil pass0 (pa_cons (pv 0) pa_nil)) (pe_one (pe_call (ok_p_is_number_within T) hr (by rfl) T.d_p_is_number_within.mg T.d_p_is_number_within.fn.kp T.d_p_is_number_within.b .nil pass0 (pa_cons (pv 1) (pa_cons pe_int (pa_cons (pe_glob (v := .int 1000000) rfl T.c_MOST_ROOM ⟨_, rfl⟩) pa_nil)))))))), ?_⟩
    refine ⟨_, rfl, x, rfl, nm, hT, fun H1 s1 => ⟨_, rfl, iteT ?_⟩⟩
    exact ⟨_, rfl, _, _, _, rfl, r0, r1, by omega, q H1 s1⟩

end
end KR
namespace KR
open PySem PySem.Spec PyProof.Rows L2
section
variable {P : Program} {w : World} {K : PySem.W.Frag} {mg : Str → Option Value} {base : Heap}
def sp_p__is_mark (K : PySem.W.Frag) : Sp := fun vs H Q _ => ∃ (m : Addr) (t b : Int), vs = [.ref m] ∧ SqT K H m [.int t, .int b] ∧ 0 < t ∧ t < b ∧ b ≤ 60 ∧ Nat.gcd t.natAbs b.natAbs = 1 ∧ Q (.bl true) H
theorem ok_p__is_mark (T : All K mg) : FnOk P w K mg base CX0 3 T.f_p__is_mark T.fd_p__is_mark ["thing"] (sp_p__is_mark K) := by
  refine T.d_p__is_mark.fn.ok sc_p__is_mark (fun vs H Q E h => ?_) (fun cdv A outer s H vs Q E hr h => ?_)
  · obtain ⟨m, t, b, rfl, _⟩ := h
    rfl
  · obtain ⟨m, t, b, rfl, hm, t0, tb, b1, cop, q⟩ := h
    refine ⟨_, (pss_one (ps_ret (pe_and (pe_call (ok_p_is_frac T) hr (by rfl) T.d_p_is_frac.mg T.d_p_is_frac.fn.kp T.d_p_is_frac.b .nil pass0 (pa_cons (pv 0) pa_nil)) (pe_one (pe_chain3 op_lt op_lt op_le pe_int (pe_ix (ixT (K := K) rfl) (pv 0) pe_int (fun _ _ => rfl)) (pe_ix (ixT (K := K) rfl) (pv 0) pe_int (fun _ _ => rfl)) (pe_glob (v := .int 60) rfl T.c_MOST_MARK_BOTTOM ⟨_, rfl⟩)))))), ?_⟩
    have D : Dj K 0 H 2 (.ref m) (.tuple [.int t, .int b]) := .tup hm rfl (by show 2 ≤ 100000; decide) fun i u c hu hc => match i, hu, hc with
      | 0, hu, hc => by cases hu; cases hc; exact .int 0 _ (by omega)
      | 1, hu, hc => by cases hu; cases hc; exact .int 0 _ (by omega)
      | i + 2, hu, _ => by simp at hu
    have e : isFracD (.tuple [.int t, .int b]) = true := by
      show (decide (0 < b) && decide (Nat.gcd t.natAbs b.natAbs = 1)) = true
      rw [decide_eq_true (show 0 < b by omega), decide_eq_true cop] <;> rfl
    refine ⟨_, rfl, 0, _, _, _, rfl, D, _, rfl, ?_⟩
    rw [e]
    refine iteT ?_
    refine ⟨_, rfl, m, _, 0, _, rfl, rfl, hm, at0, _, _, rfl, rfl, _, rfl, ?_⟩
    refine ite_bT (decide_eq_true t0) ?_
    refine ⟨_, rfl, m, _, 1, _, rfl, rfl, hm, at1, _, _, rfl, rfl, _, rfl, ?_⟩
    refine ite_bT (decide_eq_true tb) ?_
    refine ⟨_, _, rfl, rfl, ?_⟩
    show Q (.bl (decide (b ≤ 60))) H
    rw [decide_eq_true b1]
    exact q

end
end KR
namespace KR
open PySem PySem.Spec PyProof.Rows L2
section
variable {P : Program} {w : World} {K : PySem.W.Frag} {mg : Str → Option Value} {base : Heap}
def sp_p__is_drip (K : PySem.W.Frag) : Sp := fun vs H Q _ => ∃ (m : Addr) (t b : Int), vs = [.ref m] ∧ SqT K H m [.int t, .int b] ∧ 0 ≤ t ∧ t < b ∧ b ≤ 12 ∧ Nat.gcd t.natAbs b.natAbs = 1 ∧ Q (.bl true) H
theorem ok_p__is_drip (T : All K mg) : FnOk P w K mg base CX0 3 T.f_p__is_drip T.fd_p__is_drip ["thing"] (sp_p__is_drip K) := by
  refine T.d_p__is_drip.fn.ok sc_p__is_drip (fun vs H Q E h => ?_) (fun cdv A outer s H vs Q E hr h => ?_)
  · obtain ⟨m, t, b, rfl, _⟩ := h
    rfl
  · obtain ⟨m, t, b, rfl, hm, t0, tb, b1, cop, q⟩ := h
    refine ⟨_, (pss_one (ps_ret (pe_and (pe_call (ok_p_is_frac T) hr (by rfl) T.d_p_is_frac.mg T.d_p_is_frac.fn.kp T.d_p_is_frac.b .nil pass0 (pa_cons (pv 0) pa_nil)) (pe_one (pe_chain3 op_le op_lt op_le pe_int (pe_ix (ixT (K := K) rfl) (pv 0) pe_int (fun _ _ => rfl)) (pe_ix (ixT (K := K) rfl) (pv 0) pe_int (fun _ _ => rfl)) (pe_glob (v := .int 12) rfl T.c_MOST_DRIP_BOTTOM ⟨_, rfl⟩)))))), ?_⟩
    have D : Dj K 0 H 2 (.ref m) (.tuple [.int t, .int b]) := .tup hm rfl (by show 2 ≤ 100000; decide) fun i u c hu hc => match i, hu, hc with
      | 0, hu, hc => by cases hu; cases hc; exact .int 0 _ (by omega)
      | 1, hu, hc => by cases hu; cases hc; exact .int 0 _ (by omega)
      | i + 2, hu, _ => by simp at hu
    have e : isFracD (.tuple [.int t, .int b]) = true := by
      show (decide (0 < b) && decide (Nat.gcd t.natAbs b.natAbs = 1)) = true
      rw [decide_eq_true (show 0 < b by omega), decide_eq_true cop] <;> rfl
    refine ⟨_, rfl, 0, _, _, _, rfl, D, _, rfl, ?_⟩
    rw [e]
    refine iteT ?_
    refine ⟨_, rfl, m, _, 0, _, rfl, rfl, hm, at0, _, _, rfl, rfl, _, rfl, ?_⟩
    refine ite_bT (decide_eq_true t0) ?_
    refine ⟨_, rfl, m, _, 1, _, rfl, rfl, hm, at1, _, _, rfl, rfl, _, rfl, ?_⟩
    refine ite_bT (decide_eq_true tb) ?_
    refine ⟨_, _, rfl, rfl, ?_⟩
    show Q (.bl (decide (b ≤ 12))) H
    rw [decide_eq_true b1]
    exact q

end
end KR
namespace KR
open PySem PySem.Spec PyProof.Rows L2
section
variable {P : Program} {w : World} {K : PySem.W.Frag} {mg : Str → Option Value} {base : Heap}
def sp_p_is_kettle (K : PySem.W.Frag) (P : Addr) : Sp := fun vs H Q _ => (∃ (v : V) (x : Str) (d : PyData), vs = [v] ∧ KetAt K H v x d ∧ GxR.TabG H P ∧ ∀ H', Sm H H' → Q (.bl true) H') ∨ (∃ (a : Addr) (xs : List V), vs = [.ref a] ∧ SqT K H a xs ∧ xs.length ≠ 4 ∧ xs.length ≤ 100000 ∧ Q (.bl false) H)
theorem ok_p_is_kettle (T : All K mg) (B : Tabs T base) : FnOk P w K mg base CX0 4 T.f_p_is_kettle T.fd_p_is_kettle ["thing"] (sp_p_is_kettle K T.P_p_is_name) := by
  refine T.d_p_is_kettle.fn.ok sc_p_is_kettle (fun vs H Q E h => ?_) (fun cdv A outer s H vs Q E hr h => ?_)
  · rcases h with ⟨v, x, d, rfl, _⟩ | ⟨a, xs, rfl, _⟩ <;> rfl
  · refine ⟨_, (pss_cons (ps_if (PW.pt (pw_or (pt_not (pt_val (pe_callB (isiK (K := K) rfl) (by rfl) T.b_isinstance (by decide +kernel) (pa_cons (pv 0) (pa_cons (pe_bltn (v := .ty "tuple") (by rfl) T.b_tuple (by decide +kernel) rfl) pa_nil))))) (pw_or1 (pt_cmpR op_ne (pe_callB (lenQ (K := K) rfl) (by rfl) T.b_len PySem.boot_len (pa_cons (pv 0) pa_nil)) pe_int (nomark _))))) (pss_one (ps_ret pe_bl)) pss_nil)
      (pss_cons (ps_asg (pv 0) (pg_tupK (K := K) rfl rfl (pgs_cons (pg_name (i := 1) sc_p_is_kettle.nd rfl (by first | exact Or.inl rfl | exact Or.inr rfl)) (pgs_cons (pg_name (i := 2) sc_p_is_kettle.nd rfl (by first | exact Or.inl rfl | exact Or.inr rfl)) (pgs_cons (pg_name (i := 3) sc_p_is_kettle.nd rfl (by first | exact Or.inl rfl | exact Or.inr rfl)) (pgs_cons (pg_name (i := 4) sc_p_is_kettle.nd rfl (by first | exact Or.inl rfl | exact Or.inr rfl)) pgs_nil))))))
      (pss_one (ps_ret (pe_and (pe_call (ok_p__are_name_and_room T B) hr (by rfl) T.d_p__are_name_and_room.mg T.d_p__are_name_and_room.fn.kp T.d_p__are_name_and_room.b .nil pass0 (pa_cons (pv 1) (pa_cons (pv 2) pa_nil))) (pe_and (pe_call (ok_p_is_number_within T) (hr.mono (by decide)) (by rfl) T.d_p_is_number_within.mg T.d_p_is_number_within.fn.kp T.d_p_is_number_within.b .nil pass0 (pa_cons (pv 3) (pa_cons pe_int (pa_cons (pe_glob (v := .int 10000) rfl T.c_MOST_FIRE ⟨_, rfl⟩) pa_nil)))) (pe_one (pe_call (ok_p__is_mark T) hr (by rfl) T.d_p__is_mark.mg T.d_p__is_mark.fn.kp T.d_p__is_mark.b .nil pass0 (pa_cons (pv 4) pa_nil))))))))), ?_⟩
    rcases h with ⟨v, x, d, rfl, ⟨a, m, r, f, t, b, rfl, h1, h2, k, rfl⟩, hT, q⟩ | ⟨a, xs, rfl, h1, n4, le, q⟩
    case' inr =>
      refine ⟨_, rfl, _, _, _, _, _, rfl, .ty _, sqT_ty h1, kit_ty (show kitB "tuple" "tuple" = some true by decide +kernel), _, rfl, ?_⟩
      refine iteF ?_
      refine ⟨_, rfl, a, _, rfl, .inr h1, rfl, _, rfl, ?_⟩
      exact ite_nT (by omega) q
    refine ⟨_, rfl, _, _, _, _, _, rfl, .ty _, sqT_ty h1, kit_ty (show kitB "tuple" "tuple" = some true by decide +kernel), _, rfl, ?_⟩
    refine iteF ?_
    refine ⟨_, rfl, a, _, rfl, .inr h1, rfl, _, rfl, ?_⟩
    refine ite_nF rfl ?_
    refine ⟨_, rfl, a, _, rfl, h1, rfl, _, _, rfl, _, _, rfl, _, _, rfl, _, _, rfl, rfl, ?_⟩
    refine ⟨_, rfl, _, rfl, x, r, rfl, k.nm, k.r0, k.r1, hT, fun H1 s1 => ⟨_, rfl, iteT ?_⟩⟩
    refine ⟨_, rfl, _, _, _, rfl, k.f0, k.f1, by have := k.f0; have := k.f1; omega, _, rfl, iteT ?_⟩
    exact ⟨_, rfl, m, t, b, rfl, s1.tup h2, k.t0, k.tb, k.b1, k.cop, q H1 s1⟩

end
end KR
namespace KR
open PySem PySem.Spec PyProof.Rows L2
section
variable {P : Program} {w : World} {K : PySem.W.Frag} {mg : Str → Option Value} {base : Heap}
def sp_p_is_mould (K : PySem.W.Frag) (P : Addr) : Sp := fun vs H Q _ => (∃ (v : V) (x : Str) (d : PyData), vs = [v] ∧ MouAt K H v x d ∧ GxR.TabG H P ∧ ∀ H', Sm H H' → Q (.bl true) H') ∨ (∃ (a : Addr) (xs : List V), vs = [.ref a] ∧ SqT K H a xs ∧ xs.length ≠ 3 ∧ xs.length ≤ 100000 ∧ Q (.bl false) H)
theorem ok_p_is_mould (T : All K mg) (B : Tabs T base) : FnOk P w K mg base CX0 4 T.f_p_is_mould T.fd_p_is_mould ["thing"] (sp_p_is_mould K T.P_p_is_name) := by
  refine T.d_p_is_mould.fn.ok sc_p_is_mould (fun vs H Q E h => ?_) (fun cdv A outer s H vs Q E hr h => ?_)
  · rcases h with ⟨v, x, d, rfl, _⟩ | ⟨a, xs, rfl, _⟩ <;> rfl
  · refine ⟨_, (pss_cons (ps_if (PW.pt (pw_or (pt_not (pt_val (pe_callB (isiK (K := K) rfl) (by rfl) T.b_isinstance (by decide +kernel) (pa_cons (pv 0) (pa_cons (pe_bltn (v := .ty "tuple") (by rfl) T.b_tuple (by decide +kernel) rfl) pa_nil))))) (pw_or1 (pt_cmpR op_ne (pe_callB (lenQ (K := K) rfl) (by rfl) T.b_len PySem.boot_len (pa_cons (pv 0) pa_nil)) pe_int (nomark _))))) (pss_one (ps_ret pe_bl)) pss_nil)
      (pss_cons (ps_asg (pv 0) (pg_tupK (K := K) rfl rfl (pgs_cons (pg_name (i := 1) sc_p_is_mould.nd rfl (by first | exact Or.inl rfl | exact Or.inr rfl)) (pgs_cons (pg_name (i := 2) sc_p_is_mould.nd rfl (by first | exact Or.inl rfl | exact Or.inr rfl)) (pgs_cons (pg_name (i := 3) sc_p_is_mould.nd rfl (by first | exact Or.inl rfl | exact Or.inr rfl)) pgs_nil)))))
      (pss_one (ps_ret (pe_and (pe_call (ok_p__are_name_and_room T B) hr (by rfl) T.d_p__are_name_and_room.mg T.d_p__are_name_and_room.fn.kp T.d_p__are_name_and_room.b .nil pass0 (pa_cons (pv 1) (pa_cons (pv 2) pa_nil))) (pe_one (pe_call (ok_p__is_drip T) hr (by rfl) T.d_p__is_drip.mg T.d_p__is_drip.fn.kp T.d_p__is_drip.b .nil pass0 (pa_cons (pv 3) pa_nil)))))))), ?_⟩
    rcases h with ⟨v, x, d, rfl, ⟨a, m, r, t, b, rfl, h1, h2, k, rfl⟩, hT, q⟩ | ⟨a, xs, rfl, h1, n4, le, q⟩
    case' inr =>
      refine ⟨_, rfl, _, _, _, _, _, rfl, .ty _, sqT_ty h1, kit_ty (show kitB "tuple" "tuple" = some true by decide +kernel), _, rfl, ?_⟩
      refine iteF ?_
      refine ⟨_, rfl, a, _, rfl, .inr h1, rfl, _, rfl, ?_⟩
      exact ite_nT (by omega) q
    refine ⟨_, rfl, _, _, _, _, _, rfl, .ty _, sqT_ty h1, kit_ty (show kitB "tuple" "tuple" = some true by decide +kernel), _, rfl, ?_⟩
    refine iteF ?_
    refine ⟨_, rfl, a, _, rfl, .inr h1, rfl, _, rfl, ?_⟩
    refine ite_nF rfl ?_
    refine ⟨_, rfl, a, _, rfl, h1, rfl, _, _, rfl, _, _, rfl, _, _, rfl, rfl, ?_⟩
    refine ⟨_, rfl, _, rfl, x, r, rfl, k.nm, k.r0, k.r1, hT, fun H1 s1 => ⟨_, rfl, iteT ?_⟩⟩
    exact ⟨_, rfl, m, t, b, rfl, s1.tup h2, k.t0, k.tb, k.b1, k.cop, q H1 s1⟩

end
end KR
namespace KR
open PySem PySem.Spec PyProof.Rows L2
section
variable {P : Program} {w : World} {K : PySem.W.Frag} {mg : Str → Option Value} {base : Heap}
def sp_p__can_be_kettles (K : PySem.W.Frag) (Ps : List Addr) : Sp := fun vs H Q _ => ∃ (a : Addr) (xs : List V) (ns : List Str) (ds : List PyData), vs = [.ref a] ∧ SqT K H a xs ∧ AllAt (KetAt K H) xs ns ds ∧ 1 ≤ xs.length ∧ xs.length ≤ 8 ∧ ns.Nodup ∧ Tbs Ps H ∧ ∀ H', Sm H H' → Q (.bl true) H'
theorem ok_p__can_be_kettles (T : All K mg) (B : Tabs T base) : FnOk P w K mg base CX0 6 T.f_p__can_be_kettles T.fd_p__can_be_kettles ["things"] (sp_p__can_be_kettles K T.Ps) := by
  refine T.k_p__can_be_kettles.ok sc_p__can_be_kettles (fun vs H Q E h => ?_) (fun cdv A outer s H vs Q E hc hr h => ?_)
  · obtain ⟨a, xs, ns, ds, rfl, _⟩ := h
    rfl
  · obtain ⟨a, xs, ns, ds, rfl, ha, hA, lo, hi, nd, hT, q⟩ := h
    have t1 : GxR.TabG H T.P_p__can_be_kettles := hT _ (by simp [All.Ps])
    have t2 : GxR.TabG H T.P_p_is_name := hT _ (by simp [All.Ps])
    refine ⟨_, (pss_cons (ps_if (PW.pt (pw_or (pt_not (pt_chain op_le op_le pe_int (pe_callB (lenQ (K := K) rfl) (by rfl) T.b_len PySem.boot_len (pa_cons (pv 0) pa_nil)) (pe_glob (v := .int 8) rfl T.c_MOST_KETTLES ⟨_, rfl⟩))) (pw_or1 (pt_not (pt_val (pe_allG hr (by rfl) T.b_all (by decide +kernel) B.t_p__can_be_kettles hc ⟨rfl, rfl, by decide +kernel, by decide +kernel, rfl, rfl⟩ (pi_tupK (K := K) rfl (pv 0)) (fun _ _ _ _ _ _ => (pe_call (ok_p_is_kettle T B) (room_gen hr) (by rfl) T.d_p_is_kettle.mg T.d_p_is_kettle.fn.kp T.d_p_is_kettle.b .nil pass0 (pa_cons (pv 0) pa_nil))) (by intro _; rfl))))))) (pss_one (ps_ret pe_bl)) pss_nil)
      (pss_one (ps_ret (pe_call (ok_p_are_unlike T) (hr.mono (by decide)) (by rfl) T.d_p_are_unlike.mg T.d_p_are_unlike.fn.kp T.d_p_are_unlike.b .nil pass0 (pa_cons (pe_lc (own := [("thing", 1)]) (g := gName 1) (tt := tYes) (by rfl) sc_p__can_be_kettles.nd (pi_tupK (K := K) rfl (pv 0)) (blkOk_by (own := [("thing", 1)]) (N := ["things", "thing"]) (sc := defScope s_p__can_be_kettles) (by decide +kernel)) (fun _ _ _ _ _ => (pg_name (i := 1) sc_p__can_be_kettles.nd rfl (by first | exact Or.inl rfl | exact Or.inr rfl))) (fun _ _ _ _ _ => pts_nil) (fun _ _ _ _ _ => (pe_ix (ixT (K := K) rfl) (pv 1) pe_int (fun _ _ => rfl)))) pa_nil))))), ?_⟩
    refine ⟨_, rfl, a, xs, rfl, .inr ha, _, _, rfl, rfl, _, rfl, ?_⟩
    refine ite_bT (decide_eq_true (by omega)) ?_
    refine ⟨_, _, rfl, rfl, _, rfl, ?_⟩
    rw [decide_eq_true (show ((xs.length : Nat) : Int) ≤ 8 by omega)]
    refine iteF ?_
    refine ⟨_, rfl, a, rfl, ⟨xs, ha⟩, t1, xs.length, fun i H' => Sm H H' ∧ i ≤ xs.length, fun H2 tb => ⟨Sm.tabbed tb t1, Nat.zero_le _⟩, fun i H2 ⟨sm, le⟩ => ?_⟩
    by_cases c : i = xs.length
    · refine .inl ⟨⟨xs, sm.tup ha, by omega⟩, _, rfl, iteF ?_⟩
      refine ⟨_, rfl, a, rfl, ⟨xs, sm.tup ha⟩, fun D hD => ?_⟩
      refine lc_tup (K := K) (a := a) (xs := xs) (fun j H3 => Same H2 H3 ∧ H3 D = some (.lst ((ns.take j).map V.str))) ⟨same_new hD, upd_same⟩ (fun j H3 _ z => Same.tup z.1 (sm.tup ha)) (fun j y H3 hy z => ?_) (fun H3 z => ?_)
      · obtain ⟨s3, l3⟩ := z
        have jl := (List.getElem?_eq_some_iff.mp hy).1
        obtain ⟨x, d, hx, _, ⟨b, m, r, f, t, b2, rfl, h1, _⟩⟩ := hA.get hy
        refine ⟨rfl, yesT ?_⟩
        refine ⟨_, rfl, b, _, 0, _, rfl, rfl, Same.tup s3 (sm.tup h1), at0, ?_⟩
        refine ⟨_, l3, by rw [List.length_map]; exact small' (by rw [List.length_take]; omega), Same.put s3 hD, ?_⟩
        rw [upd_same, List.take_add_one, hx, List.map_append] <;> rfl
      · obtain ⟨s3, l3⟩ := z
        rw [hA.ln, List.take_length] at l3
        exact ⟨D, ns, rfl, SqL.of l3, by have := hA.ln; omega, nd, q H3 (sm.trans (.of s3))⟩
    · obtain ⟨x, hx⟩ : ∃ x, xs[i]? = some x := ⟨_, List.getElem?_eq_getElem (by omega)⟩
      refine .inr ⟨⟨xs, x, sm.tup ha, hx⟩, by omega, fun y H3 ⟨e3, hy⟩ => ?_⟩
      subst e3
      obtain rfl := Option.some.inj ((hy xs (sm.tup ha)).symm.trans hx)
      obtain ⟨x, d, _, _, k⟩ := hA.get hx
      exact ⟨_, rfl, .inl ⟨y, x, d, rfl, k.tk (.sm sm), sm.tab _ t2, fun H4 s4 => ⟨true, rfl, sm.trans s4, by omega⟩⟩⟩

end
end KR
namespace KR
open PySem PySem.Spec PyProof.Rows L2
section
variable {P : Program} {w : World} {K : PySem.W.Frag} {mg : Str → Option Value} {base : Heap}
def sp_p__can_be_moulds (K : PySem.W.Frag) (Ps : List Addr) : Sp := fun vs H Q _ => ∃ (a k : Addr) (xs ys : List V) (ns ms : List Str) (ds es : List PyData), vs = [.ref a, .ref k] ∧ SqT K H a xs ∧ AllAt (MouAt K H) xs ns ds ∧ SqT K H k ys ∧ AllAt (KetAt K H) ys ms es ∧ xs.length ≤ 40 ∧ 1 ≤ ys.length ∧ ys.length ≤ 8 ∧ (ms ++ ns).Nodup ∧ Tbs Ps H ∧ ∀ H', Sm H H' → Q (.bl true) H'
theorem ok_p__can_be_moulds (T : All K mg) (B : Tabs T base) : FnOk P w K mg base CX0 6 T.f_p__can_be_moulds T.fd_p__can_be_moulds ["things", "kettles"] (sp_p__can_be_moulds K T.Ps) := by
  refine T.k_p__can_be_moulds.ok sc_p__can_be_moulds (fun vs H Q E h => ?_) (fun cdv A outer s H vs Q E hc hr h => ?_)
  · obtain ⟨a, k, xs, ys, ns, ms, ds, es, rfl, _⟩ := h
    rfl
  · obtain ⟨a, k, xs, ys, ns, ms, ds, es, rfl, ha, hA, hk, hB, most, lo, hi, nd, hT, q⟩ := h
    have t1 : GxR.TabG H T.P_p__can_be_moulds := hT _ (by simp [All.Ps])
    have t2 : GxR.TabG H T.P_p_is_name := hT _ (by simp [All.Ps])
    refine ⟨_, (pss_cons (ps_if (PW.pt (pw_or (pt_cmpR op_gt (pe_callB (lenQ (K := K) rfl) (by rfl) T.b_len PySem.boot_len (pa_cons (pv 0) pa_nil)) (pe_glob (v := .int 40) rfl T.c_MOST_MOULDS ⟨_, rfl⟩) (nomark _)) (pw_or1 (pt_not (pt_val (pe_allG hr (by rfl) T.b_all (by decide +kernel) B.t_p__can_be_moulds hc ⟨rfl, rfl, by decide +kernel, by decide +kernel, rfl, rfl⟩ (pi_tupK (K := K) rfl (pv 0)) (fun _ _ _ _ _ _ => (pe_call (ok_p_is_mould T B) (room_gen hr) (by rfl) T.d_p_is_mould.mg T.d_p_is_mould.fn.kp T.d_p_is_mould.b .nil pass0 (pa_cons (pv 0) pa_nil))) (by intro _; rfl))))))) (pss_one (ps_ret pe_bl)) pss_nil)
      (pss_one (ps_ret (pe_call (ok_p_are_unlike T) (hr.mono (by decide)) (by rfl) T.d_p_are_unlike.mg T.d_p_are_unlike.fn.kp T.d_p_are_unlike.b .nil pass0 (pa_cons (pe_lc (own := [("one", 3)]) (g := gName 3) (tt := tYes) (by rfl) sc_p__can_be_moulds.nd (pi_tupK (K := K) rfl (pe_op (op_catTI (K := K) rfl) (pv 1) (pv 0))) (blkOk_by (own := [("one", 3)]) (N := ["things", "kettles", "thing", "one"]) (sc := defScope s_p__can_be_moulds) (by decide +kernel)) (fun _ _ _ _ _ => (pg_name (i := 3) sc_p__can_be_moulds.nd rfl (by first | exact Or.inl rfl | exact Or.inr rfl))) (fun _ _ _ _ _ => pts_nil) (fun _ _ _ _ _ => (pe_ix (ixT (K := K) rfl) (pv 3) pe_int (fun _ _ => rfl)))) pa_nil))))), ?_⟩
    refine ⟨_, rfl, a, xs, rfl, .inr ha, _, _, rfl, rfl, _, rfl, ?_⟩
    refine ite_bF (decide_eq_false (by omega)) ?_
    refine ⟨_, rfl, a, rfl, ⟨xs, ha⟩, t1, xs.length, fun i H' => Sm H H' ∧ i ≤ xs.length, fun H2 tb => ⟨Sm.tabbed tb t1, Nat.zero_le _⟩, fun i H2 ⟨sm, le⟩ => ?_⟩
    by_cases c : i = xs.length
    · refine .inl ⟨⟨xs, sm.tup ha, by omega⟩, _, rfl, iteF ?_⟩
      have nm : ∀ (j : Nat) (y : V), (ys ++ xs)[j]? = some y → ∃ (x : Str) (b : Addr) (zs : List V), (ms ++ ns)[j]? = some x ∧ y = .ref b ∧ SqT K H b (.str x :: zs) := fun j y hy => by
        by_cases lt : j < ys.length
        · rw [List.getElem?_append_left lt] at hy
          obtain ⟨x, d, hx, _, ⟨b, m, r, f, t, b2, e, h1, _⟩⟩ := hB.get hy
          exact ⟨x, b, _, by rw [List.getElem?_append_left (by rw [← hB.ln]; exact lt)]; exact hx, e, h1⟩
        · rw [List.getElem?_append_right (by omega)] at hy
          obtain ⟨x, d, hx, _, ⟨b, m, r, t, b2, e, h1, _⟩⟩ := hA.get hy
          exact ⟨x, b, _, by rw [List.getElem?_append_right (by have := hB.ln; omega), ← hB.ln]; exact hx, e, h1⟩
      refine ⟨_, rfl, _, rfl, k, a, ys, xs, rfl, rfl, sm.tup hk, sm.tup ha, (by intro z; rw [z] at lo; exact absurd lo (by decide)), small (by omega), fun c2 Hc sc hc2 => ?_⟩
      refine ⟨c2, rfl, ⟨_, hc2⟩, fun D hD => ?_⟩
      refine lc_tup (K := K) (a := c2) (xs := ys ++ xs) (fun j H3 => Same Hc H3 ∧ H3 D = some (.lst (((ms ++ ns).take j).map V.str))) ⟨same_new hD, upd_same⟩ (fun j H3 _ z => Same.tup z.1 hc2) (fun j y H3 hy z => ?_) (fun H3 z => ?_)
      · obtain ⟨s3, l3⟩ := z
        have jl := (List.getElem?_eq_some_iff.mp hy).1
        rw [List.length_append] at jl
        obtain ⟨x, b, zs, hx, rfl, h1⟩ := nm j y hy
        refine ⟨rfl, yesT ?_⟩
        refine ⟨_, rfl, b, _, 0, _, rfl, rfl, Same.tup (sc.trans s3) (sm.tup h1), atI_nat (j := 0) rfl, ?_⟩
        refine ⟨_, l3, by rw [List.length_map]; exact small' (by rw [List.length_take]; omega), Same.put s3 hD, ?_⟩
        rw [upd_same, List.take_add_one, hx, List.map_append] <;> rfl
      · obtain ⟨s3, l3⟩ := z
        have ln : (ys ++ xs).length = (ms ++ ns).length := by rw [List.length_append, List.length_append, hA.ln, hB.ln]
        rw [ln, List.take_length] at l3
        exact ⟨D, ms ++ ns, rfl, SqL.of l3, by rw [← ln, List.length_append]; omega, nd, q H3 (sm.trans ((Sm.of sc).trans (.of s3)))⟩
    · obtain ⟨x, hx⟩ : ∃ x, xs[i]? = some x := ⟨_, List.getElem?_eq_getElem (by omega)⟩
      refine .inr ⟨⟨xs, x, sm.tup ha, hx⟩, by omega, fun y H3 ⟨e3, hy⟩ => ?_⟩
      subst e3
      obtain rfl := Option.some.inj ((hy xs (sm.tup ha)).symm.trans hx)
      obtain ⟨x, d, _, _, k⟩ := hA.get hx
      exact ⟨_, rfl, .inl ⟨y, x, d, rfl, k.tk (.sm sm), sm.tab _ t2, fun H4 s4 => ⟨true, rfl, sm.trans s4, by omega⟩⟩⟩

end
end KR
namespace KR
open PySem PySem.Spec PyProof.Rows L2
section
variable {P : Program} {w : World} {K : PySem.W.Frag} {mg : Str → Option Value} {base : Heap}
/-- the attributes of a row, as they are stored -/
def rf (k m : Addr) : List (Str × V) := putF "moulds" (.ref m) (putF "kettles" (.ref k) [])
/-- a list or a tuple -/
def LT (K : PySem.W.Frag) (H : Hp) (a : Addr) (xs : List V) : Prop := SqL K H a xs ∨ SqT K H a xs
def sp_Row_init (K : PySem.W.Frag) (C : Addr) (Ps : List Addr) : Sp := fun vs H Q _ => ∃ (x dx k m : Addr) (xs ys : List V) (ns ms : List Str) (ds es : List PyData), vs = [.ref x, .ref k, .ref m] ∧ H x = some (.ins C dx []) ∧ LT K H k ys ∧ AllAt (KetAt K H) ys ms es ∧ LT K H m xs ∧ AllAt (MouAt K H) xs ns ds ∧
  xs.length ≤ 40 ∧ 1 ≤ ys.length ∧ ys.length ≤ 8 ∧ (ms ++ ns).Nodup ∧ Tbs Ps H ∧ ∀ k2 m2 H', H' x = some (.ins C dx (rf k2 m2)) → SqT K H' k2 ys → SqT K H' m2 xs → Fs x H H' → Q .non H'
theorem tuple_of {K : PySem.W.Frag} {H : Hp} {a : Addr} {xs : List V} {Q : VK} (h : LT K H a xs) (k : ∀ l H', Same H H' → SqT K H' l xs → Q (.ref l) H') : rTupI K [.ref a] H Q := by
  rcases h with h | h
  · exact ⟨a, xs, rfl, .inl ⟨h, fun l H' s _ e => k l H' s (SqT.of e)⟩⟩
  · exact ⟨a, xs, rfl, .inr ⟨h, k a H (Same.refl _) h⟩⟩
theorem ok_Row_init (T : All K mg) (B : Tabs T base) : FnOk P w K mg base CX0 7 T.f_Row_init T.fd_Row_init ["self", "kettles", "moulds"] (sp_Row_init K T.C_Row T.Ps) := by
  refine T.F_Row_init.ok sc_Row_init (fun vs H Q E h => ?_) (fun cdv A outer s H vs Q E hr h => ?_)
  · obtain ⟨x, dx, k, m, xs, ys, ns, ms, ds, es, rfl, _⟩ := h
    rfl
  · obtain ⟨x, dx, k, m, xs, ys, ns, ms, ds, es, rfl, hx, hk, hB, hm, hA, most, lo, hi, nd, hT, q⟩ := h
    refine ⟨_, (pss_cons (ps_set (i := 1) sc_Row_init.nd rfl (by first | exact Or.inl rfl | exact Or.inr rfl) (pe_callTy (tupI (K := K) rfl) (by rfl) T.b_tuple (by decide +kernel) (pa_cons (pv 1) pa_nil)))
      (pss_cons (ps_set (i := 2) sc_Row_init.nd rfl (by first | exact Or.inl rfl | exact Or.inr rfl) (pe_callTy (tupI (K := K) rfl) (by rfl) T.b_tuple (by decide +kernel) (pa_cons (pv 2) pa_nil)))
      (pss_cons (ps_if (pt_not (pt_val (pe_call (ok_p__can_be_kettles T B) hr (by rfl) T.d_p__can_be_kettles.mg T.d_p__can_be_kettles.fn.kp T.d_p__can_be_kettles.b .nil pass0 (pa_cons (pv 1) pa_nil)))) (pss_one ps_never) pss_nil)
      (pss_cons (ps_if (pt_not (pt_val (pe_call (ok_p__can_be_moulds T B) hr (by rfl) T.d_p__can_be_moulds.mg T.d_p__can_be_moulds.fn.kp T.d_p__can_be_moulds.b .nil pass0 (pa_cons (pv 2) (pa_cons (pv 1) pa_nil))))) (pss_one ps_never) pss_nil)
      (pss_cons (ps_fld (pv 0) (pv 1) rfl)
      (pss_one (ps_fld (pv 0) (pv 2) rfl))))))), ?_⟩
    refine ⟨_, rfl, ?_⟩
    dsimp only [tNil]
    refine tuple_of hk fun k2 H1 s1 hk2 => ?_
    have hm1 : LT K H1 m xs := hm.imp (fun z => s1.seq z) (fun z => Same.tup s1 z)
    refine ⟨_, rfl, ?_⟩
    dsimp only [tNil]
    refine tuple_of hm1 fun m2 H2 s2 hm2 => ?_
    have hk2' := Same.tup s2 hk2
    have sm2 : Sm H H2 := .of (s1.trans s2)
    have hB2 := hB.map fun _ _ _ => KetAt.tk (.sm sm2)
    have hA2 := hA.map fun _ _ _ => MouAt.tk (.sm sm2)
    have nd2 := (List.nodup_append.mp nd).1
    refine ⟨_, rfl, k2, ys, ms, es, rfl, hk2', hB2, lo, hi, nd2, hT.sm sm2, fun H3 s3 => ⟨_, rfl, iteF ?_⟩⟩
    have sm3 := sm2.trans s3
    refine ⟨_, rfl, _, rfl, m2, k2, xs, ys, ns, ms, ds, es, rfl, s3.tup hm2, hA.map fun _ _ _ => MouAt.tk (.sm sm3), s3.tup hk2', hB.map fun _ _ _ => KetAt.tk (.sm sm3), most, lo, hi, nd, hT.sm sm3, fun H4 s4 => ⟨_, rfl, iteF ?_⟩⟩
    have sm4 := sm3.trans s4
    have hx4 : H4 x = some (.ins T.C_Row dx []) := sm4.keep _ _ hx nofun
    refine ⟨_, rfl, _, rfl, x, T.C_Row, dx, [], rfl, hx4, T.L_Row, T.n_Row_kettles, (by show 0 < 1000; decide), ?_⟩
    refine ⟨_, rfl, _, rfl, x, T.C_Row, dx, _, rfl, upd_same, T.L_Row, T.n_Row_moulds, (by show 1 < 1000; decide), ?_⟩
    have fs : Fs x H4 (upd (upd H4 x (.ins T.C_Row dx (putF "kettles" (.ref k2) []))) x (.ins T.C_Row dx (rf k2 m2))) := ⟨fun b o n e _ => by rw [upd_ne n, upd_ne n]; exact e, fun b n ⟨g, e, t⟩ => ⟨g, by rw [upd_ne n, upd_ne n]; exact e, t⟩⟩
    have tk : TK K H4 (upd (upd H4 x (.ins T.C_Row dx (putF "kettles" (.ref k2) []))) x (.ins T.C_Row dx (rf k2 m2))) := .fs (fun xs z => by rw [hx4] at z; cases z) (fun b y z => by rw [hx4] at z; cases z) fs
    exact q k2 m2 _ upd_same (tk _ _ (s4.tup (s3.tup hk2'))) (tk _ _ (s4.tup (s3.tup hm2))) ((Fs.sm sm4).trans fs)
/-- an instance that is made -/
theorem make_same {J : Hp} {x dx C : Addr} (nx : J x = none) (ndx : J dx = none) : Same J (upd (upd J dx (.own x)) x (.ins C dx [])) := Same.put (same_new ndx) nx
theorem make_sm {J H : Hp} {x dx C : Addr} (nx : J x = none) (ndx : J dx = none) (f : Fs x (upd (upd J dx (.own x)) x (.ins C dx [])) H) : Sm J H :=
  ⟨fun c o e t => f.keep c o (ne_of_none e nx) (make_same nx ndx c o e) t, fun c h => f.tab c (fun z => by obtain ⟨q, e, _⟩ := h; rw [z, nx] at e; cases e) ((Sm.of (make_same nx ndx)).tab c h)⟩

end
end KR
namespace KR
open PySem PySem.Spec PyProof.Rows L2
section
variable {P : Program} {w : World} {K : PySem.W.Frag} {mg : Str → Option Value} {base : Heap}
theorem fdivs {t b : Int} (hb : b ≠ 0) : (b < 0 → t.fdiv (-((Nat.gcd t.natAbs b.natAbs : Nat) : Int)) = (low t b).1 ∧ b.fdiv (-((Nat.gcd t.natAbs b.natAbs : Nat) : Int)) = (low t b).2) ∧
    (¬ b < 0 → t.fdiv ((Nat.gcd t.natAbs b.natAbs : Nat) : Int) = (low t b).1 ∧ b.fdiv ((Nat.gcd t.natAbs b.natAbs : Nat) : Int) = (low t b).2) := by
  have d1 : ((Nat.gcd t.natAbs b.natAbs : Nat) : Int) ∣ t := Int.ofNat_dvd_left.mpr (Nat.gcd_dvd_left _ _)
  have d2 : ((Nat.gcd t.natAbs b.natAbs : Nat) : Int) ∣ b := Int.ofNat_dvd_left.mpr (Nat.gcd_dvd_right _ _)
  have hg : 0 < Nat.gcd t.natAbs b.natAbs := Nat.gcd_pos_of_pos_right _ (by omega)
  unfold low
  generalize Nat.gcd t.natAbs b.natAbs = g at *
  refine ⟨fun c => ?_, fun c => ?_⟩
  · rw [fdiv_neg d1, fdiv_neg d2, if_pos c]
    refine ⟨rfl, ?_⟩
    have e : (b.natAbs : Int) = -b := by omega
    show b / (g : Int) * -1 = (b.natAbs : Int) / (g : Int)
    rw [e]
    obtain ⟨z, rfl⟩ := d2
    rw [Int.mul_ediv_cancel_left _ (by omega), ← Int.mul_neg, Int.mul_ediv_cancel_left _ (by omega)]
    omega
  · rw [if_neg c, Int.fdiv_eq_ediv_of_nonneg _ (by omega), Int.fdiv_eq_ediv_of_nonneg _ (by omega)]
    have e : (b.natAbs : Int) = b := by omega
    refine ⟨by omega, ?_⟩
    show b / (g : Int) = (b.natAbs : Int) / (g : Int)
    rw [e]
theorem ok0_p_frac_of (T : All K mg) : FnOk P w K mg base CX0 1 T.f_p_frac_of T.fd_p_frac_of ["top", "bottom"] sp_lowV := by
  refine T.d_p_frac_of.fn.ok sc_p_frac_of (fun vs H Q E h => ?_) (fun cdv A outer s H vs Q E hr h => ?_)
  · obtain ⟨t, b, rfl, _⟩ := h
    rfl
  · obtain ⟨t, b, rfl, hb, ht, hb2, q⟩ := h
    refine ⟨_, (pss_cons (ps_set (i := 2) sc_p_frac_of.nd rfl (by first | exact Or.inl rfl | exact Or.inr rfl) (pe_callBfun cr_gcd (by rfl) T.m_gcd (pa_cons (pv 0) (pa_cons (pv 1) pa_nil))))
      (pss_cons (ps_if (pt_cmpR op_lt (pv 1) pe_int (nomark _)) (pss_one (ps_set (i := 2) sc_p_frac_of.nd rfl (by first | exact Or.inl rfl | exact Or.inr rfl) (pe_un un_neg (pv 2)))) pss_nil)
      (pss_one (ps_ret (pe_tupI (pa_cons (pe_op op_fdivX (pv 0) (pv 2)) (pa_cons (pe_op op_fdivX (pv 1) (pv 2)) pa_nil))))))), ?_⟩
    have hg : 0 < Nat.gcd t.natAbs b.natAbs := Nat.gcd_pos_of_pos_right _ (by omega)
    have hg2 : Nat.gcd t.natAbs b.natAbs < 2 ^ 8900 := Nat.lt_of_le_of_lt (Nat.le_of_dvd (by omega) (Nat.gcd_dvd_right _ _)) hb2
    obtain ⟨k1, k2⟩ := fdivs (t := t) hb
    refine ⟨_, rfl, _, rfl, _, _, rfl, ?_⟩
    refine ⟨_, rfl, _, _, rfl, rfl, _, rfl, ite2 (fun c => ?_) (fun c => ?_)⟩
    · have c1 : b < 0 := of_decide_eq_true c
      have hd : ∀ z : Int, DivOk z (-((Nat.gcd t.natAbs b.natAbs : Nat) : Int)) := fun z => divOk (b := 8900) (by omega) (by rw [Int.natAbs_neg, Int.natAbs_natCast]; exact hg2) (by decide) (by decide)
      refine ⟨_, rfl, _, rfl, _, rfl, _, rfl, _, _, rfl, rfl, hd _, _, rfl, _, rfl, _, _, rfl, rfl, hd _, rfl, fun p H1 s1 hp h1 => ?_⟩
      refine q p H1 s1 hp ?_
      rw [← (k1 c1).1, ← (k1 c1).2]
      exact h1
    · have c1 : ¬ b < 0 := of_decide_eq_false (Bool.eq_false_iff.mpr c)
      have hd : ∀ z : Int, DivOk z ((Nat.gcd t.natAbs b.natAbs : Nat) : Int) := fun z => divOk (b := 8900) (by omega) (by rw [Int.natAbs_natCast]; exact hg2) (by decide) (by decide)
      refine ⟨_, rfl, _, rfl, _, _, rfl, rfl, hd _, _, rfl, _, rfl, _, _, rfl, rfl, hd _, rfl, fun p H1 s1 hp h1 => ?_⟩
      refine q p H1 s1 hp ?_
      rw [← (k2 c1).1, ← (k2 c1).2]
      exact h1
theorem ok_p_frac_of (T : All K mg) : FnOk P w K mg base CX0 1 T.f_p_frac_of T.fd_p_frac_of ["top", "bottom"] (sp_lowW K) := (ok0_p_frac_of T).imp fun _ _ _ _ h => lowW h

end
end KR
namespace KR
open PySem PySem.Spec PyProof.Rows L2
section
variable {P : Program} {w : World} {K : PySem.W.Frag} {mg : Str → Option Value} {base : Heap}
theorem ok_p_sum_of (T : All K mg) : FnOk P w K mg base CX0 2 T.f_p_sum_of T.fd_p_sum_of ["one", "other"] (sp_w2 K (fun p q => p + q) (fun _ q => True)) := by
  refine T.d_p_sum_of.fn.ok sc_p_sum_of (fun vs H Q E h => ?_) (fun cdv A outer s H vs Q E hr h => ?_)
  · obtain ⟨x, y, p, q, rfl, _⟩ := h
    rfl
  · obtain ⟨x, y, p, q, rfl, hx, hy, zp, zq, hok, k⟩ := h
    have hx' : SqT K H x [.int p.num, .int (p.den : Int)] := hx
    have hy' : SqT K H y [.int q.num, .int (q.den : Int)] := hy
    refine ⟨_, (pss_one (ps_ret (pe_call (ok_p_frac_of T) hr (by rfl) T.d_p_frac_of.mg T.d_p_frac_of.fn.kp T.d_p_frac_of.b .nil pass0 (pa_cons (pe_op op_add (pe_op op_mulX (pe_ix (ixT (K := K) rfl) (pv 0) pe_int (fun _ _ => rfl)) (pe_ix (ixT (K := K) rfl) (pv 1) pe_int (fun _ _ => rfl))) (pe_op op_mulX (pe_ix (ixT (K := K) rfl) (pv 1) pe_int (fun _ _ => rfl)) (pe_ix (ixT (K := K) rfl) (pv 0) pe_int (fun _ _ => rfl)))) (pa_cons (pe_op op_mulX (pe_ix (ixT (K := K) rfl) (pv 0) pe_int (fun _ _ => rfl)) (pe_ix (ixT (K := K) rfl) (pv 1) pe_int (fun _ _ => rfl))) pa_nil))))), ?_⟩
    obtain ⟨a1, a2⟩ := zp
    obtain ⟨b1, b2⟩ := zq
    have hp := den_ne' p
    have hq := den_ne' q
    refine ⟨_, rfl, x, _, 0, _, rfl, rfl, hx', at0, _, rfl, y, _, 1, _, rfl, rfl, hy', at1, _, _, rfl, rfl, mulZ a1 b2 (by omega), _, rfl, y, _, 0, _, rfl, rfl, hy', at0, _, rfl, x, _, 1, _, rfl, rfl, hx', at1, _, _, rfl, rfl, mulZ b1 a2 (by omega), _, _, rfl, rfl, ?_⟩
    refine ⟨_, rfl, x, _, 1, _, rfl, rfl, hx', at1, _, rfl, y, _, 1, _, rfl, rfl, hy', at1, _, _, rfl, rfl, mulZ a2 b2 (by omega), ?_⟩
    refine ⟨_, _, rfl, Int.mul_ne_zero hp hq, lt_up (add_lt (wide_lt a1 b2) (wide_lt b1 a2)) (by omega), lt_up (wide_lt a2 b2) (by omega), ?_⟩
    intro z H' s1 n1 h1
    rw [rq_add] at h1
    exact k z H' s1 n1 h1

end
end KR
namespace KR
open PySem PySem.Spec PyProof.Rows L2
section
variable {P : Program} {w : World} {K : PySem.W.Frag} {mg : Str → Option Value} {base : Heap}
theorem ok_p_difference (T : All K mg) : FnOk P w K mg base CX0 2 T.f_p_difference T.fd_p_difference ["one", "other"] (sp_w2 K (fun p q => p - q) (fun _ q => True)) := by
  refine T.d_p_difference.fn.ok sc_p_difference (fun vs H Q E h => ?_) (fun cdv A outer s H vs Q E hr h => ?_)
  · obtain ⟨x, y, p, q, rfl, _⟩ := h
    rfl
  · obtain ⟨x, y, p, q, rfl, hx, hy, zp, zq, hok, k⟩ := h
    have hx' : SqT K H x [.int p.num, .int (p.den : Int)] := hx
    have hy' : SqT K H y [.int q.num, .int (q.den : Int)] := hy
    refine ⟨_, (pss_one (ps_ret (pe_call (ok_p_frac_of T) hr (by rfl) T.d_p_frac_of.mg T.d_p_frac_of.fn.kp T.d_p_frac_of.b .nil pass0 (pa_cons (pe_op op_sub (pe_op op_mulX (pe_ix (ixT (K := K) rfl) (pv 0) pe_int (fun _ _ => rfl)) (pe_ix (ixT (K := K) rfl) (pv 1) pe_int (fun _ _ => rfl))) (pe_op op_mulX (pe_ix (ixT (K := K) rfl) (pv 1) pe_int (fun _ _ => rfl)) (pe_ix (ixT (K := K) rfl) (pv 0) pe_int (fun _ _ => rfl)))) (pa_cons (pe_op op_mulX (pe_ix (ixT (K := K) rfl) (pv 0) pe_int (fun _ _ => rfl)) (pe_ix (ixT (K := K) rfl) (pv 1) pe_int (fun _ _ => rfl))) pa_nil))))), ?_⟩
    obtain ⟨a1, a2⟩ := zp
    obtain ⟨b1, b2⟩ := zq
    have hp := den_ne' p
    have hq := den_ne' q
    refine ⟨_, rfl, x, _, 0, _, rfl, rfl, hx', at0, _, rfl, y, _, 1, _, rfl, rfl, hy', at1, _, _, rfl, rfl, mulZ a1 b2 (by omega), _, rfl, y, _, 0, _, rfl, rfl, hy', at0, _, rfl, x, _, 1, _, rfl, rfl, hx', at1, _, _, rfl, rfl, mulZ b1 a2 (by omega), _, _, rfl, rfl, ?_⟩
    refine ⟨_, rfl, x, _, 1, _, rfl, rfl, hx', at1, _, rfl, y, _, 1, _, rfl, rfl, hy', at1, _, _, rfl, rfl, mulZ a2 b2 (by omega), ?_⟩
    refine ⟨_, _, rfl, Int.mul_ne_zero hp hq, lt_up (sub_lt (wide_lt a1 b2) (wide_lt b1 a2)) (by omega), lt_up (wide_lt a2 b2) (by omega), ?_⟩
    intro z H' s1 n1 h1
    rw [rq_sub] at h1
    exact k z H' s1 n1 h1

end
end KR
namespace KR
open PySem PySem.Spec PyProof.Rows L2
section
variable {P : Program} {w : World} {K : PySem.W.Frag} {mg : Str → Option Value} {base : Heap}
theorem ok_p_product (T : All K mg) : FnOk P w K mg base CX0 2 T.f_p_product T.fd_p_product ["one", "other"] (sp_w2 K (fun p q => p * q) (fun _ q => True)) := by
  refine T.d_p_product.fn.ok sc_p_product (fun vs H Q E h => ?_) (fun cdv A outer s H vs Q E hr h => ?_)
  · obtain ⟨x, y, p, q, rfl, _⟩ := h
    rfl
  · obtain ⟨x, y, p, q, rfl, hx, hy, zp, zq, hok, k⟩ := h
    have hx' : SqT K H x [.int p.num, .int (p.den : Int)] := hx
    have hy' : SqT K H y [.int q.num, .int (q.den : Int)] := hy
    refine ⟨_, (pss_one (ps_ret (pe_call (ok_p_frac_of T) hr (by rfl) T.d_p_frac_of.mg T.d_p_frac_of.fn.kp T.d_p_frac_of.b .nil pass0 (pa_cons (pe_op op_mulX (pe_ix (ixT (K := K) rfl) (pv 0) pe_int (fun _ _ => rfl)) (pe_ix (ixT (K := K) rfl) (pv 1) pe_int (fun _ _ => rfl))) (pa_cons (pe_op op_mulX (pe_ix (ixT (K := K) rfl) (pv 0) pe_int (fun _ _ => rfl)) (pe_ix (ixT (K := K) rfl) (pv 1) pe_int (fun _ _ => rfl))) pa_nil))))), ?_⟩
    obtain ⟨a1, a2⟩ := zp
    obtain ⟨b1, b2⟩ := zq
    have hp := den_ne' p
    have hq := den_ne' q
    refine ⟨_, rfl, x, _, 0, _, rfl, rfl, hx', at0, _, rfl, y, _, 0, _, rfl, rfl, hy', at0, _, _, rfl, rfl, mulZ a1 b1 (by omega), ?_⟩
    refine ⟨_, rfl, x, _, 1, _, rfl, rfl, hx', at1, _, rfl, y, _, 1, _, rfl, rfl, hy', at1, _, _, rfl, rfl, mulZ a2 b2 (by omega), ?_⟩
    refine ⟨_, _, rfl, Int.mul_ne_zero hp hq, lt_up (wide_lt a1 b1) (by omega), lt_up (wide_lt a2 b2) (by omega), ?_⟩
    intro z H' s1 n1 h1
    rw [rq_mul] at h1
    exact k z H' s1 n1 h1

end
end KR
namespace KR
open PySem PySem.Spec PyProof.Rows L2
section
variable {P : Program} {w : World} {K : PySem.W.Frag} {mg : Str → Option Value} {base : Heap}
theorem ok_p_quotient (T : All K mg) : FnOk P w K mg base CX0 2 T.f_p_quotient T.fd_p_quotient ["one", "other"] (sp_w2 K (fun p q => p / q) (fun _ q => q ≠ 0)) := by
  refine T.d_p_quotient.fn.ok sc_p_quotient (fun vs H Q E h => ?_) (fun cdv A outer s H vs Q E hr h => ?_)
  · obtain ⟨x, y, p, q, rfl, _⟩ := h
    rfl
  · obtain ⟨x, y, p, q, rfl, hx, hy, zp, zq, hok, k⟩ := h
    have hx' : SqT K H x [.int p.num, .int (p.den : Int)] := hx
    have hy' : SqT K H y [.int q.num, .int (q.den : Int)] := hy
    refine ⟨_, (pss_one (ps_ret (pe_call (ok_p_frac_of T) hr (by rfl) T.d_p_frac_of.mg T.d_p_frac_of.fn.kp T.d_p_frac_of.b .nil pass0 (pa_cons (pe_op op_mulX (pe_ix (ixT (K := K) rfl) (pv 0) pe_int (fun _ _ => rfl)) (pe_ix (ixT (K := K) rfl) (pv 1) pe_int (fun _ _ => rfl))) (pa_cons (pe_op op_mulX (pe_ix (ixT (K := K) rfl) (pv 0) pe_int (fun _ _ => rfl)) (pe_ix (ixT (K := K) rfl) (pv 1) pe_int (fun _ _ => rfl))) pa_nil))))), ?_⟩
    obtain ⟨a1, a2⟩ := zp
    obtain ⟨b1, b2⟩ := zq
    have hp := den_ne' p
    have hq := den_ne' q
    refine ⟨_, rfl, x, _, 0, _, rfl, rfl, hx', at0, _, rfl, y, _, 1, _, rfl, rfl, hy', at1, _, _, rfl, rfl, mulZ a1 b2 (by omega), ?_⟩
    refine ⟨_, rfl, x, _, 1, _, rfl, rfl, hx', at1, _, rfl, y, _, 0, _, rfl, rfl, hy', at0, _, _, rfl, rfl, mulZ a2 b1 (by omega), ?_⟩
    refine ⟨_, _, rfl, Int.mul_ne_zero hp (num_ne hok), lt_up (wide_lt a1 b2) (by omega), lt_up (wide_lt a2 b1) (by omega), ?_⟩
    intro z H' s1 n1 h1
    rw [rq_div] at h1
    exact k z H' s1 n1 h1

end
end KR
namespace KR
open PySem PySem.Spec PyProof.Rows L2
section
variable {P : Program} {w : World} {K : PySem.W.Frag} {mg : Str → Option Value} {base : Heap}
theorem ok_p_is_lesser (T : All K mg) : FnOk P w K mg base CX0 3 T.f_p_is_lesser T.fd_p_is_lesser ["one", "other"] (sp_lessB K) := by
  refine T.d_p_is_lesser.fn.ok sc_p_is_lesser (fun vs H Q E h => ?_) (fun cdv A outer s H vs Q E hr h => ?_)
  · obtain ⟨x, y, p, q, rfl, _⟩ := h
    rfl
  · obtain ⟨x, y, p, q, rfl, hx, hy, zp, zq, k⟩ := h
    have hx' : SqT K H x [.int p.num, .int (p.den : Int)] := hx
    have hy' : SqT K H y [.int q.num, .int (q.den : Int)] := hy
    refine ⟨_, (pss_one (ps_ret (pe_and (pe_call (okq_p_is_frac T) hr (by rfl) T.d_p_is_frac.mg T.d_p_is_frac.fn.kp T.d_p_is_frac.b .nil pass0 (pa_cons (pv 1) pa_nil)) (pe_one (pe_cmpR op_lt (pe_op op_mulX (pe_ix (ixT (K := K) rfl) (pv 0) pe_int (fun _ _ => rfl)) (pe_ix (ixT (K := K) rfl) (pv 1) pe_int (fun _ _ => rfl))) (pe_op op_mulX (pe_ix (ixT (K := K) rfl) (pv 1) pe_int (fun _ _ => rfl)) (pe_ix (ixT (K := K) rfl) (pv 0) pe_int (fun _ _ => rfl))) (nomark _)))))), ?_⟩
    refine ⟨_, rfl, y, q.num, (q.den : Int), rfl, hy, rat_low q, true, rfl, ite_bT rfl ?_⟩
    obtain ⟨a1, a2⟩ := zp
    obtain ⟨b1, b2⟩ := zq
    refine ⟨_, rfl, x, _, 0, _, rfl, rfl, hx', at0, _, rfl, y, _, 1, _, rfl, rfl, hy', at1, _, _, rfl, rfl, mulZ a1 b2 (by omega), ?_⟩
    refine ⟨_, rfl, y, _, 0, _, rfl, rfl, hy', at0, _, rfl, x, _, 1, _, rfl, rfl, hx', at1, _, _, rfl, rfl, mulZ b1 a2 (by omega), _, _, rfl, rfl, ?_⟩
    have e : decide (p.num * (q.den : Int) < q.num * (p.den : Int)) = decide (p < q) := by
      rw [decide_eq_decide]
      exact lt_cross p q
    show Q (.bl (decide (p.num * (q.den : Int) < q.num * (p.den : Int)))) H
    rw [e]
    exact k

end
end KR
namespace KR
open PySem PySem.Spec PyProof.Rows L2
section
variable {P : Program} {w : World} {K : PySem.W.Frag} {mg : Str → Option Value} {base : Heap}
theorem ok_p_mixed (T : All K mg) : FnOk P w K mg base CX0 3 T.f_p_mixed T.fd_p_mixed ["one", "other"] (sp_jw2 K) := by
  refine T.d_p_mixed.fn.ok sc_p_mixed (fun vs H Q E h => ?_) (fun cdv A outer s H vs Q E hr h => ?_)
  · obtain ⟨x, y, s, w, s', w', rfl, _⟩ := h
    rfl
  · obtain ⟨x, y, s, w, s', w', rfl, ⟨a1, a2, hx, ha1, ha2⟩, ⟨b1, b2, hy, hb1, hb2⟩, za, zb, zc, zd, q⟩ := h
    refine ⟨_, (pss_one (ps_ret (pe_tupI (pa_cons (pe_call (ok_p_sum_of T) hr (by rfl) T.d_p_sum_of.mg T.d_p_sum_of.fn.kp T.d_p_sum_of.b .nil pass0 (pa_cons (pe_ix (ixT (K := K) rfl) (pv 0) pe_int (fun _ _ => rfl)) (pa_cons (pe_ix (ixT (K := K) rfl) (pv 1) pe_int (fun _ _ => rfl)) pa_nil))) (pa_cons (pe_call (ok_p_sum_of T) hr (by rfl) T.d_p_sum_of.mg T.d_p_sum_of.fn.kp T.d_p_sum_of.b .nil pass0 (pa_cons (pe_ix (ixT (K := K) rfl) (pv 0) pe_int (fun _ _ => rfl)) (pa_cons (pe_ix (ixT (K := K) rfl) (pv 1) pe_int (fun _ _ => rfl)) pa_nil))) pa_nil))))), ?_⟩
    refine ⟨_, rfl, x, _, 0, _, rfl, rfl, hx, at0, _, rfl, y, _, 0, _, rfl, rfl, hy, at0, a1, b1, s, s', rfl, ha1, hb1, za, zc, trivial, fun z1 H1 s1 n1 h1 => ?_⟩
    refine ⟨_, rfl, x, _, 1, _, rfl, rfl, Same.tup s1 hx, at1, _, rfl, y, _, 1, _, rfl, rfl, Same.tup s1 hy, at1, a2, b2, w, w', rfl, ha2.same s1, hb2.same s1, zb, zd, trivial, fun z2 H2 s2 n2 h2 => ?_⟩
    refine ⟨rfl, fun z H3 s3 n3 h3 => ?_⟩
    exact q z H3 (s1.trans (s2.trans s3)) (.new h3 (h1.same (s2.trans s3)) (h2.same s3))

end
end KR
namespace KR
open PySem PySem.Spec PyProof.Rows L2
section
variable {P : Program} {w : World} {K : PySem.W.Frag} {mg : Str → Option Value} {base : Heap}
theorem ok_p_volume_of (T : All K mg) : FnOk P w K mg base CX0 3 T.f_p_volume_of T.fd_p_volume_of ["juice"] (sp_volW K) := by
  refine T.d_p_volume_of.fn.ok sc_p_volume_of (fun vs H Q E h => ?_) (fun cdv A outer s H vs Q E hr h => ?_)
  · obtain ⟨x, s, w, rfl, _⟩ := h
    rfl
  · obtain ⟨x, s, w, rfl, ⟨a1, a2, hx, ha1, ha2⟩, za, zb, q⟩ := h
    refine ⟨_, (pss_one (ps_ret (pe_call (ok_p_sum_of T) hr (by rfl) T.d_p_sum_of.mg T.d_p_sum_of.fn.kp T.d_p_sum_of.b .nil pass0 (pa_cons (pe_ix (ixT (K := K) rfl) (pv 0) pe_int (fun _ _ => rfl)) (pa_cons (pe_ix (ixT (K := K) rfl) (pv 0) pe_int (fun _ _ => rfl)) pa_nil))))), ?_⟩
    refine ⟨_, rfl, x, _, 0, _, rfl, rfl, hx, at0, _, rfl, x, _, 1, _, rfl, rfl, hx, at1, a1, a2, s, w, rfl, ha1, ha2, za, zb, trivial, fun z1 H1 s1 n1 h1 => ?_⟩
    exact q z1 H1 s1 h1

end
end KR
namespace KR
open PySem PySem.Spec PyProof.Rows L2
section
variable {P : Program} {w : World} {K : PySem.W.Frag} {mg : Str → Option Value} {base : Heap}
theorem NOTH {K : PySem.W.Frag} {H : Hp} {C : Addr} (h : ∃ x y, ∀ H, SqT K H C [.ref x, .ref y] ∧ SqT K H x [.int 0, .int 1] ∧ SqT K H y [.int 0, .int 1]) : JuQ K H C 0 0 := by
  obtain ⟨x, y, k⟩ := h
  obtain ⟨h1, h2, h3⟩ := k H
  exact ⟨x, y, h1, h2, h3⟩
theorem ok_Mould_init (T : All K mg) : FnOk P w K mg base CX0 1 T.f_Mould_init T.fd_Mould_init ["self", "room", "drip"] (sp_Mould_init K T.C_Mould) := by
  refine T.F_Mould_init.ok sc_Mould_init (fun vs H Q E h => ?_) (fun cdv A outer s H vs Q E hr h => ?_)
  · obtain ⟨c, dx, r, dv, d, rfl, _⟩ := h
    rfl
  · obtain ⟨c, dx, r, dv, d, rfl, hc, hd, q⟩ := h
    refine ⟨_, (pss_cons (ps_fld (pv 0) (pv 1) rfl)
      (pss_cons (ps_fld (pv 0) (pv 2) rfl)
      (pss_cons (ps_fld (pv 0) (pe_glob (v := .ref T.C_NOTHING) rfl T.g_NOTHING rfl) rfl)
      (pss_cons (ps_fld (pv 0) pe_dnewK rfl)
      (pss_one (ps_fld (pv 0) pe_bl rfl)))))), ?_⟩
    refine ⟨_, rfl, _, rfl, c, T.C_Mould, dx, [], rfl, hc, T.L_Mould, T.n_Mould_room, (by show 0 < 1000; decide), ?_⟩
    refine ⟨_, rfl, _, rfl, c, T.C_Mould, dx, _, rfl, upd_same, T.L_Mould, T.n_Mould_drip, (by show 1 < 1000; decide), ?_⟩
    refine ⟨_, rfl, c, T.C_Mould, dx, _, rfl, upd_same, T.L_Mould, T.n_Mould_juice, (by show 2 < 1000; decide), ?_⟩
    intro g hg
    have gc : g ≠ c := fun z => by rw [z, upd_same] at hg; cases hg
    have hg0 : H g = none := by rw [upd_ne gc, upd_ne gc, upd_ne gc] at hg; exact hg
    refine ⟨_, rfl, c, T.C_Mould, dx, _, rfl, (by rw [upd_ne gc.symm, upd_same]), T.L_Mould, T.n_Mould_sugars, (by show 3 < 1000; decide), ?_⟩
    refine ⟨_, rfl, c, T.C_Mould, dx, _, rfl, upd_same, T.L_Mould, T.n_Mould_cured, (by show 4 < 1000; decide), ?_⟩
    have of : Off K (· = c) H _ := ((((((Off.refl (K := K) (R := (· = c)) (H := H)).write rfl hc .ins (o2 := (.ins T.C_Mould dx (putF "room" (.int r) [])))).write rfl hc .ins (o2 := (.ins T.C_Mould dx (putF "drip" dv (putF "room" (.int r) []))))).write rfl hc .ins (o2 := (.ins T.C_Mould dx (putF "juice" (.ref T.C_NOTHING) (putF "drip" dv (putF "room" (.int r) [])))))).fresh hg0 (o2 := .dK [])).write rfl hc .ins (o2 := (.ins T.C_Mould dx (putF "sugars" (.ref g) (putF "juice" (.ref T.C_NOTHING) (putF "drip" dv (putF "room" (.int r) []))))))).write rfl hc .ins (o2 := (.ins T.C_Mould dx (mf r dv (.ref T.C_NOTHING) g false)))
    refine q g _ hg0 ⟨⟨dx, dv, .ref T.C_NOTHING, upd_same, hd.tk of.tk, ⟨_, rfl, NOTH T.q_NOTHING⟩⟩, fun _ => .non, ?_, fun k hk => absurd hk List.not_mem_nil⟩ of
    rw [upd_ne gc, upd_ne gc, upd_same] <;> rfl

end
end KR
namespace KR
open PySem PySem.Spec PyProof.Rows L2
section
variable {P : Program} {w : World} {K : PySem.W.Frag} {mg : Str → Option Value} {base : Heap}
theorem ok_Mould_bear (T : All K mg) : FnOk P w K mg base CX0 3 T.f_Mould_bear T.fd_Mould_bear ["self", "strike", "sugar"] (sp_Mould_bear K T.C_Mould) := by
  refine T.F_Mould_bear.ok sc_Mould_bear (fun vs H Q E h => ?_) (fun cdv A outer s H vs Q E hr h => ?_)
  · obtain ⟨c, g, m, k, a, s, rfl, _⟩ := h
    rfl
  · obtain ⟨c, g, m, k, a, s, rfl, hc, ha, bs, bq, len, q⟩ := h
    refine ⟨_, (pss_one (ps_asg (pe_call (ok_p_sum_of T) hr (by rfl) T.d_p_sum_of.mg T.d_p_sum_of.fn.kp T.d_p_sum_of.b .nil pass0 (pa_cons (pe_dget2 (hu_of hr) (pe_fldK (K := K) rfl (pv 0) rfl) (pv 1) (pe_glob (v := .ref T.C_NOUGHT) rfl T.g_NOUGHT rfl) (by exact ⟨rfl, rfl, rfl, rfl⟩)) (pa_cons (pv 2) pa_nil))) (pg_sub (pe_fldK (K := K) rfl (pv 0) rfl) (pv 1) (set_dict (hu_of hr))))), ?_⟩
    have ne := hc.ne
    obtain ⟨⟨dx, dv, jv, h1, h2, h3⟩, f, h4, h5⟩ := hc
    obtain ⟨o, w, og, wq, wb⟩ : ∃ (o : Option V) (w : Addr), DGet H g (.int k) o ∧ o.getD (.ref T.C_NOUGHT) = .ref w ∧ FrQ K H w (if k ∈ m.ks then m.q k else 0) := by
      by_cases hk : k ∈ m.ks
      · obtain ⟨w, e, hw⟩ := h5 k hk
        rw [if_pos hk]
        exact ⟨_, w, dget_i (.inl h4) hk, e, hw⟩
      · rw [if_neg hk]
        exact ⟨_, T.C_NOUGHT, dget_i0 (.inl h4) hk, rfl, T.q_NOUGHT H⟩
    have bw : Big (if k ∈ m.ks then m.q k else 0) := by
      split
      · rename_i hk
        exact bq hk
      · exact Sz.int (z := 0) (by decide) (by decide)
    refine ⟨_, rfl, c, T.C_Mould, dx, _, _, rfl, h1, T.L_Mould, T.n_Mould_sugars, rfl, ?_⟩
    refine ⟨g, rfl, .inl ⟨_, .inl h4⟩, _, rfl, o, og, _, rfl, w, a, _, s, by rw [wq] <;> rfl, wb, ha, bw, bs, trivial, fun z H1 s1 n1 z1 => ?_⟩
    refine ⟨_, rfl, c, T.C_Mould, dx, _, _, rfl, s1 _ _ h1, T.L_Mould, T.n_Mould_sugars, rfl, _, rfl, g, _, rfl, dput_i (s1 _ _ h4) (by omega), ?_⟩
    have of : Off K (· = g) H (upd H1 g (.dK (byK kI (addK m.ks k) (set1 f k (.ref z))))) := (Off.same s1).write rfl h4 .dK
    refine q _ ⟨⟨dx, dv, jv, by rw [upd_ne ne]; exact s1 _ _ h1, h2.tk of.tk, h3.tk of.tk⟩, _, upd_same, fun j hj => ?_⟩ of
    show FQ K _ (set1 f k (.ref z) j) (set1 m.q k ((if k ∈ m.ks then m.q k else 0) + s) j)
    by_cases e : j = k
    · subst e
      rw [set1_same, set1_same]
      exact ⟨z, rfl, z1.tk (TK.upd (s1 _ _ h4) (fun _ y => by cases y) (fun _ _ y => by cases y))⟩
    · rw [set1_ne e, set1_ne e]
      exact (h5 j ((mem_addK.mp hj).resolve_right e)).tk of.tk

end
end KR
namespace KR
open PySem PySem.Spec PyProof.Rows L2
section
variable {P : Program} {w : World} {K : PySem.W.Frag} {mg : Str → Option Value} {base : Heap}
theorem ok_Mould_strike_shares (T : All K mg) : FnOk P w K mg base CX0 3 T.f_Mould_strike_shares T.fd_Mould_strike_shares ["self"] (sp_Mould_strike_shares K T.C_Mould) := by
  refine T.F_Mould_strike_shares.ok sc_Mould_strike_shares (fun vs H Q E h => ?_) (fun cdv A outer s H vs Q E hr h => ?_)
  · obtain ⟨c, g, m, rfl, _⟩ := h
    rfl
  · obtain ⟨c, g, m, rfl, hc, ft, q⟩ := h
    refine ⟨_, (pss_cons (ps_set (i := 1) sc_Mould_strike_shares.nd rfl (by first | exact Or.inl rfl | exact Or.inr rfl) (pe_glob (v := .ref T.C_NOUGHT) rfl T.g_NOUGHT rfl))
      (pss_cons (ps_lock (ps_for PassesOwn.never rfl (pi_values (pe_fldK (K := K) rfl (pv 0) rfl)) (pg_name (i := 2) sc_Mould_strike_shares.nd rfl (by first | exact Or.inl rfl | exact Or.inr rfl)) (pss_one (ps_set (i := 1) sc_Mould_strike_shares.nd rfl (by first | exact Or.inl rfl | exact Or.inr rfl) (pe_call (ok_p_sum_of T) hr (by rfl) T.d_p_sum_of.mg T.d_p_sum_of.fn.kp T.d_p_sum_of.b .nil pass0 (pa_cons (pv 1) (pa_cons (pv 2) pa_nil)))))))
      (pss_one (ps_ret (pe_callTy (tupI (K := K) rfl) (by rfl) T.b_tuple (by decide +kernel) (pa_cons (pe_lc (own := [("strike", 3)]) (g := gName 3) (tt := tYes) (by rfl) sc_Mould_strike_shares.nd (pi_listK (K := K) rfl (pe_callB (call_sortedDI rfl) (by rfl) T.b_sorted (by decide +kernel) (pa_cons (pe_fldK (K := K) rfl (pv 0) rfl) pa_nil))) (blkOk_by (own := [("strike", 3)]) (N := ["self", "whole", "sugar", "strike"]) (sc := defScope s_Mould_strike_shares) (by decide +kernel)) (fun _ _ _ _ _ => (pg_name (i := 3) sc_Mould_strike_shares.nd rfl (by first | exact Or.inl rfl | exact Or.inr rfl))) (fun _ _ _ _ _ => pts_nil) (fun _ _ _ _ _ => (pe_tupI (pa_cons (pv 3) (pa_cons (pe_call (ok_p_quotient T) hr (by rfl) T.d_p_quotient.mg T.d_p_quotient.fn.kp T.d_p_quotient.b .nil pass0 (pa_cons (pe_dget (hu_of hr) (pe_fldK (K := K) rfl (pv 0) rfl) (pv 3) (fun _ _ => rfl)) (pa_cons (pv 1) pa_nil))) pa_nil))))) pa_nil)))))), ?_⟩
    have cg := hc.ne
    obtain ⟨⟨dx, dv, jv, h1, h2, h3⟩, f, h4, h5⟩ := hc
    refine ⟨g, _, h4, trivial, fun od => ?_⟩
    generalize eL : upd H g (.frz od (.dK (byK kI m.ks f))) = L
    have tkL : TK K H L := by rw [← eL]; exact tk_lock h4
    have cL : L c = some (.ins T.C_Mould dx (mf m.room dv jv g m.cur)) := by rw [← eL, upd_ne cg]; exact h1
    have gL : L g = some (.frz od (.dK (byK kI m.ks f))) := by rw [← eL, upd_same]
    refine ⟨_, rfl, c, T.C_Mould, dx, _, _, rfl, cL, T.L_Mould, T.n_Mould_sugars, rfl, g, od, _, rfl, gL, ?_⟩
    refine for_vals (fun i σ H' => ∃ (a : Addr) (v2 v3 : Option V), σ = [some (.ref c), some (.ref a), v2, v3] ∧ FrQ K H' a (zsum ((m.ks.map m.q).take i)) ∧ Same L H') ⟨T.C_NOUGHT, none, none, rfl, T.q_NOUGHT L, Same.refl _⟩ (fun i σ H' _ ⟨_, _, _, _, _, sm⟩ => sm _ _ gL) ?_ ?_
    · rintro i k v σ H' hi ⟨a, v2, v3, rfl, ha, sm⟩
      obtain ⟨k', hk, e⟩ := byK_get hi
      cases e
      have hkm := List.mem_of_getElem? hk
      obtain ⟨b, e, hb⟩ := h5 k' hkm
      have hi2 := (List.getElem?_eq_some_iff.mp hk).1
      rw [e]
      refine ⟨_, rfl, _, rfl, a, b, _, m.q k', rfl, ha, (hb.tk tkL).same sm, ft.add i (by rw [List.length_map]; omega), ft.big k' hkm, trivial, fun z H2 s2 n2 z2 => ?_⟩
      refine ⟨z, _, v3, rfl, ?_, sm.trans s2⟩
      rw [zsum_take (q := m.q k') (by rw [List.getElem?_map, hk] <;> rfl)]
      exact z2
    · rintro σ H' ⟨a, v2, v3, rfl, ha, sm⟩
      refine ⟨sm _ _ gL, ?_⟩
      rw [byK_len] at ha
      have s0 : Same H (upd H' g (.dK (byK kI m.ks f))) := lock_same h4 (by rw [eL]; exact sm)
      have ha2 : FrQ K (upd H' g (.dK (byK kI m.ks f))) a m.tot := by
        have e : zsum ((m.ks.map m.q).take m.ks.length) = m.tot := by rw [List.take_of_length_le (by rw [List.length_map]; exact Nat.le_refl _)] <;> rfl
        rw [e] at ha
        exact ha.tk (tk_unlock (sm _ _ gL))
      generalize upd H' g (.dK (byK kI m.ks f)) = H2 at s0 ha2
      have bt : Big m.tot := by
        have k := ft.add m.ks.length (by rw [List.length_map]; exact Nat.le_refl _)
        rw [List.take_of_length_le (by rw [List.length_map]; exact Nat.le_refl _)] at k
        exact k
      have tk0 : TK K H H2 := TK.same s0
      refine ⟨_, rfl, c, T.C_Mould, dx, _, _, rfl, s0 _ _ h1, T.L_Mould, T.n_Mould_sugars, rfl, ?_⟩
      refine ⟨g, _, m.ks, rfl, .inl (s0 _ _ h4), byK_keys, by have := ft.len; omega, fun ys p perm up np => ?_⟩
      obtain rfl := srt_eq perm up
      have s3 : Same H2 (upd H2 p (.lst ((srt m.ks).map V.int))) := same_new np
      have h3l : (upd H2 p (.lst ((srt m.ks).map V.int))) p = some (.lst ((srt m.ks).map V.int)) := upd_same
      generalize upd H2 p (.lst ((srt m.ks).map V.int)) = H3 at s3 h3l
      refine ⟨p, rfl, ⟨_, SqL.of h3l⟩, fun D hD => ?_⟩
      have pD : p ≠ D := ne_of_none h3l hD
      refine lc_list (K := K) (a := p) (xs := (srt m.ks).map V.int) (fun i H' => ∃ acc : List V, Same H3 H' ∧ H' D = some (.lst acc) ∧ DtuAll K H' 3 acc (((srt m.ks).take i).map m.shp)) ⟨[], same_new hD, upd_same, .nil⟩ (fun i H' _ ⟨_, sm, _⟩ => SqL.of (sm _ _ h3l)) (fun i x H' hi w => ?_) ?_
      · obtain ⟨acc, sm, hl, hd⟩ := w
        rw [List.getElem?_map] at hi
        obtain ⟨k, hk, rfl⟩ : ∃ k, (srt m.ks)[i]? = some k ∧ x = V.int k := by
          cases e : (srt m.ks)[i]? with
          | none => rw [e] at hi; cases hi
          | some k => rw [e] at hi; exact ⟨k, rfl, (Option.some.inj hi).symm⟩
        have hkm : k ∈ m.ks := mem_srt.mp (List.mem_of_getElem? hk)
        obtain ⟨b, e, hb⟩ := h5 k hkm
        have s03 := s0.trans (s3.trans sm)
        have la : acc.length ≤ 1000 := by
          have := hd.1
          have l2 := (srt_perm m.ks).length_eq
          have := ft.len
          rw [List.length_map, List.length_take] at *
          omega
        refine ⟨rfl, yesT ?_⟩
        refine ⟨_, rfl, _, rfl, c, T.C_Mould, dx, _, _, rfl, s03 _ _ h1, T.L_Mould, T.n_Mould_sugars, rfl, _, rfl, g, _, rfl, dget_i (.inl (s03 _ _ h4)) hkm, _, rfl, b, a, m.q k, m.tot, by rw [e] <;> rfl, hb.same s03, ha2.same (s3.trans sm), ft.big k hkm, bt, ft.tot (fun z => by rw [z] at hkm; cases hkm), fun z H5 s5 n5 z5 => ⟨rfl, fun tp H6 s6 n6 h6 => ?_⟩⟩
        have hl6 := s6 _ _ (s5 _ _ hl)
        have tk6 : TK K H6 (upd H6 D (.lst (acc ++ [.ref tp]))) := TK.upd hl6 (fun _ y => by cases y) (fun _ _ y => by cases y)
        refine ⟨acc, hl6, small' (by omega), acc ++ [.ref tp], Same.put (sm.trans (s5.trans s6)) hD, upd_same, ?_⟩
        rw [take_one hk, List.map_append]
        exact ((hd.tk (TK.same (s5.trans s6))).tk tk6).snoc ((DtuAll.tup (.cons (.int _ _) (.cons ((z5.same s6).dtu) .nil)) (SqT.of h6) (by show 2 ≤ 100000; decide)).tk tk6)
      · rintro H4 ⟨acc, sm, hl, hd⟩
        rw [List.length_map, List.take_length] at hd
        refine ⟨D, acc, rfl, .inl ⟨SqL.of hl, fun l H5 s5 n5 h5 => ?_⟩⟩
        have la : acc.length ≤ 1000 := by
          have := hd.1
          have l2 := (srt_perm m.ks).length_eq
          have := ft.len
          rw [List.length_map] at *
          omega
        exact q l H5 (s0.trans (s3.trans (sm.trans s5))) (DtuAll.tup (hd.tk (TK.same s5)) (SqT.of h5) (by omega))

end
end KR
namespace KR
open PySem PySem.Spec PyProof.Rows L2
section
variable {P : Program} {w : World} {K : PySem.W.Frag} {mg : Str → Option Value} {base : Heap}
theorem ok_Mould_drip_out (T : All K mg) : FnOk P w K mg base CX0 3 T.f_Mould_drip_out T.fd_Mould_drip_out ["self"] (sp_Mould_drip_out K T.C_Mould) := by
  refine T.F_Mould_drip_out.ok sc_Mould_drip_out (fun vs H Q E h => ?_) (fun cdv A outer s H vs Q E hr h => ?_)
  · obtain ⟨c, g, m, rfl, _⟩ := h
    rfl
  · obtain ⟨c, g, m, rfl, hc, ft, q⟩ := h
    refine ⟨_, (pss_cons (ps_asg (pe_fldK (K := K) rfl (pv 0) rfl) (pg_tupK (K := K) rfl rfl (pgs_cons (pg_name (i := 1) sc_Mould_drip_out.nd rfl (by first | exact Or.inl rfl | exact Or.inr rfl)) (pgs_cons (pg_name (i := 2) sc_Mould_drip_out.nd rfl (by first | exact Or.inl rfl | exact Or.inr rfl)) pgs_nil))))
      (pss_cons (ps_set (i := 3) sc_Mould_drip_out.nd rfl (by first | exact Or.inl rfl | exact Or.inr rfl) (pe_call (ok_p_product T) hr (by rfl) T.d_p_product.mg T.d_p_product.fn.kp T.d_p_product.b .nil pass0 (pa_cons (pv 1) (pa_cons (pe_fldK (K := K) rfl (pv 0) rfl) pa_nil))))
      (pss_cons (ps_fld (pv 0) (pe_tupI (pa_cons (pe_call (ok_p_difference T) hr (by rfl) T.d_p_difference.mg T.d_p_difference.fn.kp T.d_p_difference.b .nil pass0 (pa_cons (pv 1) (pa_cons (pv 3) pa_nil))) (pa_cons (pe_glob (v := .ref T.C_NOUGHT) rfl T.g_NOUGHT rfl) pa_nil))) rfl)
      (pss_cons (ps_fld (pv 0) pe_bl rfl)
      (pss_one (ps_ret (pe_tupI (pa_cons (pv 3) (pa_cons (pv 2) pa_nil))))))))), ?_⟩
    obtain ⟨⟨dx, dv, jv, h1, h2, j, rfl, sa, wa, hj, hs, hw⟩, f, h4, h5⟩ := hc
    obtain ⟨d, rfl, hd⟩ := h2
    refine ⟨_, rfl, c, T.C_Mould, dx, _, _, rfl, h1, T.L_Mould, T.n_Mould_juice, rfl, ?_⟩
    refine ⟨j, _, rfl, hj, rfl, _, _, rfl, _, _, rfl, rfl, ?_⟩
    refine ⟨_, rfl, _, rfl, c, T.C_Mould, dx, _, _, rfl, h1, T.L_Mould, T.n_Mould_drip, rfl, ?_⟩
    refine ⟨sa, d, m.s, m.drip, rfl, hs, hd, ft.s, ft.drip, trivial, fun z1 H1 s1 n1 k1 => ?_⟩
    refine ⟨_, rfl, _, rfl, sa, z1, m.s, m.s * m.drip, rfl, hs.same s1, k1, ft.s, ft.gone, trivial, fun z2 H2 s2 n2 k2 => ?_⟩
    refine ⟨rfl, fun z3 H3 s3 n3 k3 => ?_⟩
    have sm := s1.trans (s2.trans s3)
    refine ⟨_, rfl, c, T.C_Mould, dx, _, rfl, sm _ _ h1, T.L_Mould, T.n_Mould_juice, (by show 5 < 1000; decide), ?_⟩
    refine ⟨_, rfl, c, T.C_Mould, dx, _, rfl, upd_same, T.L_Mould, T.n_Mould_cured, (by show 5 < 1000; decide), ?_⟩
    refine ⟨_, rfl, _, rfl, rfl, fun a H5 s5 n5 k5 => ?_⟩
    have of3 : Off K (· = c) H3 H5 := (((Off.refl (K := K) (R := (· = c)) (H := H3)).write rfl (sm _ _ h1) .ins (o2 := (.ins T.C_Mould dx (mf m.room (.ref d) (.ref z3) g m.cur)))).write rfl (sm _ _ h1) .ins (o2 := (.ins T.C_Mould dx (mf m.room (.ref d) (.ref z3) g true)))).seq (.same s5)
    have of : Off K (· = c) H H5 := (Off.same sm).seq of3
    have gc : g ≠ c := ne_of h4 h1 (by intro z; cases z)
    refine q a H5 ⟨⟨dx, .ref d, .ref z3, s5 _ _ upd_same, ⟨d, rfl, hd.tk of.tk⟩, z3, rfl, ?_⟩, f, of.dK gc h4, fun k hk => (h5 k hk).tk of.tk⟩ (.new k5 ((k1.same (s2.trans s3)).tk of3.tk) ((hw.same sm).tk of3.tk)) of
    exact (JuQ.new k3 (k2.same s3) (show FrQ K H3 T.C_NOUGHT 0 from T.q_NOUGHT H3)).tk of3.tk

end
end KR
namespace KR
open PySem PySem.Spec PyProof.Rows L2
section
variable {P : Program} {w : World} {K : PySem.W.Frag} {mg : Str → Option Value} {base : Heap}
theorem ok_Mould_clear_out (T : All K mg) : FnOk P w K mg base CX0 1 T.f_Mould_clear_out T.fd_Mould_clear_out ["self"] (sp_Mould_clear_out K T.C_Mould) := by
  refine T.F_Mould_clear_out.ok sc_Mould_clear_out (fun vs H Q E h => ?_) (fun cdv A outer s H vs Q E hr h => ?_)
  · obtain ⟨c, g, m, rfl, _⟩ := h
    rfl
  · obtain ⟨c, g, m, rfl, hc, q⟩ := h
    refine ⟨_, (pss_cons (ps_fld (pv 0) (pe_glob (v := .ref T.C_NOTHING) rfl T.g_NOTHING rfl) rfl)
      (pss_cons (ps_fld (pv 0) pe_dnewK rfl)
      (pss_one (ps_fld (pv 0) pe_bl rfl)))), ?_⟩
    obtain ⟨⟨dx, dv, jv, h1, h2, h3⟩, f, h4, h5⟩ := hc
    refine ⟨_, rfl, c, T.C_Mould, dx, _, rfl, h1, T.L_Mould, T.n_Mould_juice, (by show 5 < 1000; decide), ?_⟩
    intro g2 hg
    have gc : g2 ≠ c := fun z => by rw [z, upd_same] at hg; cases hg
    have hg0 : H g2 = none := by rw [upd_ne gc] at hg; exact hg
    refine ⟨_, rfl, c, T.C_Mould, dx, _, rfl, (by rw [upd_ne gc.symm, upd_same]), T.L_Mould, T.n_Mould_sugars, (by show 5 < 1000; decide), ?_⟩
    refine ⟨_, rfl, c, T.C_Mould, dx, _, rfl, upd_same, T.L_Mould, T.n_Mould_cured, (by show 5 < 1000; decide), ?_⟩
    have of : Off K (· = c) H _ := ((((Off.refl (K := K) (R := (· = c)) (H := H)).write rfl h1 .ins (o2 := (.ins T.C_Mould dx (mf m.room dv (.ref T.C_NOTHING) g m.cur)))).fresh hg0 (o2 := .dK [])).write rfl h1 .ins (o2 := (.ins T.C_Mould dx (mf m.room dv (.ref T.C_NOTHING) g2 m.cur)))).write rfl h1 .ins (o2 := (.ins T.C_Mould dx (mf m.room dv (.ref T.C_NOTHING) g2 false)))
    refine q g2 _ hg0 ⟨⟨dx, dv, .ref T.C_NOTHING, upd_same, h2.tk of.tk, ⟨_, rfl, NOTH T.q_NOTHING⟩⟩, fun _ => .non, ?_, fun k hk => absurd hk List.not_mem_nil⟩ of
    rw [upd_ne gc, upd_ne gc, upd_same] <;> rfl

end
end KR
namespace KR
open PySem PySem.Spec PyProof.Rows L2
section
variable {P : Program} {w : World} {K : PySem.W.Frag} {mg : Str → Option Value} {base : Heap}
theorem ok_SameRow_init (T : All K mg) : FnOk P w K mg base CX0 1 T.f_SameRow_init T.fd_SameRow_init ["self", "row"] (sp_SameRow_init T.C_SameRow T.C_Row) := by
  refine T.F_SameRow_init.ok sc_SameRow_init (fun vs H Q E h => ?_) (fun cdv A outer s H vs Q E hr h => ?_)
  · obtain ⟨x, dx, r, dr, k, m, rfl, _⟩ := h
    rfl
  · obtain ⟨x, dx, r, dr, k, m, rfl, hx, hrr, q⟩ := h
    refine ⟨_, (pss_cons (ps_fld (pv 0) (pe_fldK (K := K) rfl (pv 1) rfl) rfl)
      (pss_one (ps_fld (pv 0) (pe_fldK (K := K) rfl (pv 1) rfl) rfl))), ?_⟩
    have ne : r ≠ x := ne_of hrr hx (fun z => by have y := (HO.ins.inj z).2.2; cases y)
    refine ⟨_, rfl, r, T.C_Row, dr, _, _, rfl, hrr, T.L_Row, T.n_Row_kettles, rfl, _, rfl, x, T.C_SameRow, dx, [], rfl, hx, T.L_SameRow, T.n_SameRow_kettles, (by show 0 < 1000; decide), ?_⟩
    refine ⟨_, rfl, r, T.C_Row, dr, _, _, rfl, (by rw [upd_ne ne]; exact hrr), T.L_Row, T.n_Row_moulds, rfl, _, rfl, x, T.C_SameRow, dx, _, rfl, upd_same, T.L_SameRow, T.n_SameRow_moulds, (by show 1 < 1000; decide), ?_⟩
    exact q _ (Fr.put (Fr.put .refl)) ⟨_, upd_same, .ins⟩

end
end KR
namespace KR
open PySem PySem.Spec PyProof.Rows L2
section
variable {P : Program} {w : World} {K : PySem.W.Frag} {mg : Str → Option Value} {base : Heap}
theorem ok_p_need_some (T : All K mg) : FnOk P w K mg base (L2.CX P w) 3 T.f_p_need_some T.fd_p_need_some ["name", "juice"] (sp_need_some K T.C_Empty) := by
  refine T.d_p_need_some.fn.okX sc_p_need_some (fun vs H Q E h => ?_) (fun cdv A outer s H vs Q E hr h => ?_)
  · obtain ⟨v, a, s, w, rfl, _⟩ := h
    rfl
  · obtain ⟨v, a, s, w, rfl, ha, w1, w2⟩ := h
    refine ⟨_, (pss_one (ps_if (pt_cmpR (eqDK (K := K) rfl hr.units) (pv 1) (pe_glob (v := .ref T.C_NOTHING) rfl T.g_NOTHING rfl) (nomark _)) (pss_one (ps_raise rfl (takes_of rfl rfl rfl rfl) (pmk_oex T.O_Empty T.i_Empty T.tI_Empty (ok_init_Empty T) (hr.mono (by decide)) T.bI_Empty .nil pass0 rfl T.g_Empty (by exact (pa_cons (pv 0) pa_nil))))) pss_nil)), ?_⟩
    have e : PyData.eqv (dj s w) (dj 0 0) = decide (s = 0 ∧ w = 0) := by
      show (PyData.eqv (dq s) (dq 0) && (PyData.eqv (dq w) (dq 0) && true)) = _
      rw [eqv_dq, eqv_dq, Bool.and_true, Bool.decide_and]
    refine ⟨_, rfl, dj s w, dj 0 0, ha.dp, (NOTH T.q_NOTHING).dp, rfl, rfl, _, rfl, ?_⟩
    rw [e]
    by_cases c : s = 0 ∧ w = 0
    · rw [decide_eq_true c]
      refine iteT ?_
      refine ⟨_, rfl, by show 1 ≤ 1000; decide, fun b hb => ⟨b, v, rfl, upd_same, fun d hd hne => ?_⟩⟩
      rw [upd_ne hne] at hd
      refine ⟨rfl, d, (wh "Empty" v), upd_same, by rw [upd_ne hne, upd_same], hd, ?_⟩
      exact w1 c d _ (raised_keeps (o1 := exo b T.C_Empty none) (o2 := exd d (wh "Empty" v)) (o3 := exo b T.C_Empty (some d)) (o4 := .xd (wh "Empty" v)) hb hd) upd_same
    · rw [decide_eq_false c]
      exact iteF (w2 c H (Same.refl _))

end
end KR
namespace KR
open PySem PySem.Spec PyProof.Rows L2
section
variable {P : Program} {w : World} {K : PySem.W.Frag} {mg : Str → Option Value} {base : Heap}
theorem ok_p_poured_into (T : All K mg) : FnOk P w K mg base (L2.CX P w) 5 T.f_p_poured_into T.fd_p_poured_into ["name", "room", "juice", "more"] (sp_poured_into K T.C_NoRoom) := by
  refine T.d_p_poured_into.fn.okX sc_p_poured_into (fun vs H Q E h => ?_) (fun cdv A outer s H vs Q E hr h => ?_)
  · obtain ⟨v, r, a, b, s, w, s', w', rfl, _⟩ := h
    rfl
  · obtain ⟨v, r, a, b, s, w, s', w', rfl, ha, hb, z1, z2, z3, z4, z5, z6, z7, z8, w1, w2⟩ := h
    refine ⟨_, (pss_cons (ps_set (i := 4) sc_p_poured_into.nd rfl (by first | exact Or.inl rfl | exact Or.inr rfl) (pe_call (ok_p_mixed T) (hr.mono (by decide)) (by rfl) T.d_p_mixed.mg T.d_p_mixed.fn.kp T.d_p_mixed.b .nil pass0 (pa_cons (pv 2) (pa_cons (pv 3) pa_nil))))
      (pss_cons (ps_if (pt_val (pe_call (ok_p_is_lesser T) (hr.mono (by decide)) (by rfl) T.d_p_is_lesser.mg T.d_p_is_lesser.fn.kp T.d_p_is_lesser.b .nil pass0 (pa_cons (pe_tupI (pa_cons (pv 1) (pa_cons pe_int pa_nil))) (pa_cons (pe_call (ok_p_volume_of T) (hr.mono (by decide)) (by rfl) T.d_p_volume_of.mg T.d_p_volume_of.fn.kp T.d_p_volume_of.b .nil pass0 (pa_cons (pv 4) pa_nil)) pa_nil)))) (pss_one (ps_raise rfl (takes_of rfl rfl rfl rfl) (pmk_oex T.O_NoRoom T.i_NoRoom T.tI_NoRoom (ok_init_NoRoom T) (hr.mono (by decide)) T.bI_NoRoom .nil pass0 rfl T.g_NoRoom (by exact (pa_cons (pv 0) pa_nil))))) pss_nil)
      (pss_one (ps_ret (pv 4))))), ?_⟩
    refine ⟨_, rfl, _, rfl, a, b, s, w, s', w', rfl, ha, hb, z1, z2, z3, z4, fun z H1 s1 h1 => ?_⟩
    refine ⟨_, rfl, rfl, fun tp H2 s2 n2 h2 => ?_⟩
    refine ⟨_, rfl, z, s + s', w + w', rfl, h1.same s2, z5, z6, fun y H3 s3 h3 => ?_⟩
    refine ⟨tp, y, (r : Rat), _, rfl, FrQ.int (s3 _ _ h2), h3, z8, z7, _, rfl, ?_⟩
    have sm := s1.trans (s2.trans s3)
    by_cases c : (r : Rat) < s + s' + (w + w')
    · rw [decide_eq_true c]
      refine iteT ?_
      refine ⟨_, rfl, by show 1 ≤ 1000; decide, fun b hb => ⟨b, v, rfl, upd_same, fun d hd hne => ?_⟩⟩
      rw [upd_ne hne] at hd
      refine ⟨rfl, d, (wh "NoRoom" v), upd_same, by rw [upd_ne hne, upd_same], hd, ?_⟩
      exact w1 c d _ (sm.trans (raised_keeps (o1 := exo b T.C_NoRoom none) (o2 := exd d (wh "NoRoom" v)) (o3 := exo b T.C_NoRoom (some d)) (o4 := .xd (wh "NoRoom" v)) hb hd)) upd_same
    · rw [decide_eq_false c]
      refine iteF ?_
      exact ⟨_, rfl, w2 c z H3 sm (h1.same (s2.trans s3))⟩

end
end KR
namespace KR
open PySem PySem.Spec PyProof.Rows L2
section
variable {P : Program} {w : World} {K : PySem.W.Frag} {mg : Str → Option Value} {base : Heap}
def sp_m_share (K : PySem.W.Frag) : Sp := fun vs H Q _ => ∃ (x y : Addr) (s w t : Rat), vs = [.ref x, .ref y] ∧ JuQ K H x s w ∧ FrQ K H y t ∧ Big s ∧ Big w ∧ Big t ∧ ∀ z H', Same H H' → JuQ K H' z (s * t) (w * t) → Q (.ref z) H'
theorem ok_p_share_of (T : All K mg) : FnOk P w K mg base CX0 3 T.f_p_share_of T.fd_p_share_of ["juice", "share"] (sp_m_share K) := by
  refine T.d_p_share_of.fn.ok sc_p_share_of (fun vs H Q E h => ?_) (fun cdv A outer s H vs Q E hr h => ?_)
  · obtain ⟨x, y, s, w, t, rfl, _⟩ := h
    rfl
  · obtain ⟨x, y, s, w, t, rfl, ⟨a1, a2, hx, ha1, ha2⟩, hy, za, zb, zc, q⟩ := h
    refine ⟨_, (pss_one (ps_ret (pe_tupI (pa_cons (pe_call (ok_p_product T) hr (by rfl) T.d_p_product.mg T.d_p_product.fn.kp T.d_p_product.b .nil pass0 (pa_cons (pe_ix (ixT (K := K) rfl) (pv 0) pe_int (fun _ _ => rfl)) (pa_cons (pv 1) pa_nil))) (pa_cons (pe_call (ok_p_product T) hr (by rfl) T.d_p_product.mg T.d_p_product.fn.kp T.d_p_product.b .nil pass0 (pa_cons (pe_ix (ixT (K := K) rfl) (pv 0) pe_int (fun _ _ => rfl)) (pa_cons (pv 1) pa_nil))) pa_nil))))), ?_⟩
    refine ⟨_, rfl, x, _, 0, _, rfl, rfl, hx, at0, _, rfl, a1, y, s, t, rfl, ha1, hy, za, zc, trivial, fun z1 H1 s1 n1 h1 => ?_⟩
    refine ⟨_, rfl, x, _, 1, _, rfl, rfl, Same.tup s1 hx, at1, _, rfl, a2, y, w, t, rfl, ha2.same s1, hy.same s1, zb, zc, trivial, fun z2 H2 s2 n2 h2 => ?_⟩
    refine ⟨rfl, fun z H3 s3 n3 h3 => ?_⟩
    exact q z H3 (s1.trans (s2.trans s3)) (.new h3 ((show FrQ K H1 z1 (s * t) from h1).same (s2.trans s3)) ((show FrQ K H2 z2 (w * t) from h2).same s3))

end
end KR
namespace KR
open PySem PySem.Spec PyProof.Rows L2
section
variable {P : Program} {w : World} {K : PySem.W.Frag} {mg : Str → Option Value} {base : Heap}
def sp_m_rest (K : PySem.W.Frag) : Sp := fun vs H Q _ => ∃ (x y : Addr) (s w t : Rat), vs = [.ref x, .ref y] ∧ JuQ K H x s w ∧ FrQ K H y t ∧ Big s ∧ Big w ∧ Big t ∧ Big (1 - t) ∧ ∀ z H', Same H H' → JuQ K H' z (s * (1 - t)) (w * (1 - t)) → Q (.ref z) H'
theorem ok_p_rest_of (T : All K mg) : FnOk P w K mg base CX0 4 T.f_p_rest_of T.fd_p_rest_of ["juice", "share"] (sp_m_rest K) := by
  refine T.d_p_rest_of.fn.ok sc_p_rest_of (fun vs H Q E h => ?_) (fun cdv A outer s H vs Q E hr h => ?_)
  · obtain ⟨x, y, s, w, t, rfl, _⟩ := h
    rfl
  · obtain ⟨x, y, s, w, t, rfl, hx, hy, za, zb, zc, zd, q⟩ := h
    refine ⟨_, (pss_one (ps_ret (pe_call (ok_p_share_of T) hr (by rfl) T.d_p_share_of.mg T.d_p_share_of.fn.kp T.d_p_share_of.b .nil pass0 (pa_cons (pv 0) (pa_cons (pe_call (ok_p_difference T) (hr.mono (by decide)) (by rfl) T.d_p_difference.mg T.d_p_difference.fn.kp T.d_p_difference.b .nil pass0 (pa_cons (pe_glob (v := .ref T.C_ONE) rfl T.g_ONE rfl) (pa_cons (pv 1) pa_nil))) pa_nil))))), ?_⟩
    refine ⟨_, rfl, _, rfl, T.C_ONE, y, 1, t, rfl, T.q_ONE H, hy, Sz.int (z := 1) (by decide) (by decide), zc, trivial, fun z1 H1 s1 n1 h1 => ?_⟩
    exact ⟨x, z1, s, w, 1 - t, rfl, hx.same s1, h1, za, zb, zd, fun z H2 s2 hz => q z H2 (s1.trans s2) hz⟩

end
end KR
namespace KR
open PySem PySem.Spec PyProof.Rows L2
section
variable {P : Program} {w : World} {K : PySem.W.Frag} {mg : Str → Option Value} {base : Heap}
def sp_m_need (K : PySem.W.Frag) (CS : Addr) : Sp := fun vs H Q E => ∃ (a : Addr) (t : Rat), vs = [.ref a] ∧ FrQ K H a t ∧ (¬ ShOk t → Rf CS "NoShare" (.ref a) H E) ∧ (ShOk t → Q .non H)
theorem ok_p_need_share (T : All K mg) : FnOk P w K mg base (L2.CX P w) 3 T.f_p_need_share T.fd_p_need_share ["share"] (sp_m_need K T.C_NoShare) := by
  refine T.d_p_need_share.fn.okX sc_p_need_share (fun vs H Q E h => ?_) (fun cdv A outer s H vs Q E hr h => ?_)
  · obtain ⟨a, t, rfl, _⟩ := h
    rfl
  · obtain ⟨a, t, rfl, ha, w1, w2⟩ := h
    refine ⟨_, (pss_cons (ps_asg (pv 0) (pg_tupK (K := K) rfl rfl (pgs_cons (pg_name (i := 1) sc_p_need_share.nd rfl (by first | exact Or.inl rfl | exact Or.inr rfl)) (pgs_cons (pg_name (i := 2) sc_p_need_share.nd rfl (by first | exact Or.inl rfl | exact Or.inr rfl)) pgs_nil))))
      (pss_one (ps_if (pt_not (pt_chain3 op_lt op_le op_le pe_int (pv 1) (pv 2) (pe_glob (v := .int 12) rfl T.c_MOST_BOTTOM ⟨_, rfl⟩))) (pss_one (ps_raise rfl (takes_of rfl rfl rfl rfl) (pmk_oex T.O_NoShare T.i_NoShare T.tI_NoShare (ok_init_NoShare T) (hr.mono (by decide)) T.bI_NoShare .nil pass0 rfl T.g_NoShare (by exact (pa_cons (pv 0) pa_nil))))) pss_nil))), ?_⟩
    have ha' : SqT K H a [.int t.num, .int (t.den : Int)] := ha
    refine ⟨_, rfl, a, _, rfl, ha', rfl, _, _, rfl, _, _, rfl, rfl, ?_⟩
    have bad : ¬ ShOk t → tMkO T.C_NoShare (sp_initX T.C_NoShare (Str.ofString "NoShare")) [] (tCons (tVar 0) tNil) [some (V.ref a), some (V.int t.num), some (V.int (t.den : Int))] H (fun cls d H' => E cls d H') := fun no => by
      refine ⟨_, rfl, by show 1 ≤ 1000; decide, fun b hb => ⟨b, (.ref a), rfl, upd_same, fun d hd hne => ?_⟩⟩
      rw [upd_ne hne] at hd
      refine ⟨rfl, d, (wh "NoShare" (.ref a)), upd_same, by rw [upd_ne hne, upd_same], hd, ?_⟩
      exact w1 no d _ (raised_keeps (o1 := exo b T.C_NoShare none) (o2 := exd d (wh "NoShare" (.ref a))) (o3 := exo b T.C_NoShare (some d)) (o4 := .xd (wh "NoShare" (.ref a))) hb hd) upd_same
    refine ⟨_, rfl, _, _, rfl, rfl, _, rfl, ?_⟩
    by_cases c1 : (0 : Int) < t.num
    case neg =>
      rw [decide_eq_false c1]
      exact ⟨_, rfl, bad fun z => c1 z.1⟩
    rw [decide_eq_true c1]
    refine ⟨_, rfl, _, _, rfl, rfl, _, rfl, ?_⟩
    by_cases c2 : t.num ≤ (t.den : Int)
    case neg =>
      rw [decide_eq_false c2]
      exact ⟨_, rfl, bad fun z => c2 z.2.1⟩
    rw [decide_eq_true c2]
    refine ⟨_, _, rfl, rfl, _, rfl, ?_⟩
    by_cases c3 : (t.den : Int) ≤ 12
    case neg =>
      rw [decide_eq_false c3]
      exact bad fun z => c3 z.2.2
    rw [decide_eq_true c3]
    exact w2 ⟨c1, c2, c3⟩

end
end KR
namespace KR
open PySem PySem.Spec PyProof.Rows L2
section
variable {P : Program} {w : World} {K : PySem.W.Frag} {mg : Str → Option Value} {base : Heap}
theorem ok_Moulds_init (T : All K mg) : FnOk P w K mg base CX0 4 T.f_Moulds_init T.fd_Moulds_init ["self", "row"] (sp_Moulds_init K T.C_Moulds T.C_Mould T.C_Row) := by
  refine T.F_Moulds_init.ok sc_Moulds_init (fun vs H Q E h => ?_) (fun cdv A outer s H vs Q E hr h => ?_)
  · obtain ⟨p, dx, r, dr, k, m, xs, rs, rfl, _⟩ := h
    rfl
  · obtain ⟨p, dx, r, dr, k, m, xs, rs, rfl, hp, hrr, hm, len, hx, nd, l9, q⟩ := h
    refine ⟨_, (pss_cons (ps_fld (pv 0) (pe_make T.M_SameRow (ok_SameRow_init T) (hr.mono (by decide)) (by rfl) T.g_SameRow T.b_SameRow_init .nil pass0 (pa_cons (pv 1) pa_nil)) rfl)
      (pss_cons (ps_fld (pv 0) (pe_dc (own := [("name", 2), ("room", 3), ("drip", 4)]) (g := gTup K 3 (gCons (gName 2) (gCons (gName 3) (gCons (gName 4) gNil)))) (tt := tYes) (by rfl) sc_Moulds_init.nd (pi_tupK (K := K) rfl (pe_fldK (K := K) rfl (pv 1) rfl)) (blkOk_by (own := [("name", 2), ("room", 3), ("drip", 4)]) (N := ["self", "row", "name", "room", "drip"]) (sc := defScope s_Moulds_init) (by decide +kernel)) (fun _ _ _ _ _ => (pg_tupK (K := K) rfl rfl (pgs_cons (pg_name (i := 2) sc_Moulds_init.nd rfl (by first | exact Or.inl rfl | exact Or.inr rfl)) (pgs_cons (pg_name (i := 3) sc_Moulds_init.nd rfl (by first | exact Or.inl rfl | exact Or.inr rfl)) (pgs_cons (pg_name (i := 4) sc_Moulds_init.nd rfl (by first | exact Or.inl rfl | exact Or.inr rfl)) pgs_nil))))) (fun _ _ _ _ _ => pts_nil) (fun _ _ _ _ _ => (pv 2)) (fun _ _ _ _ _ => (pe_make T.M_Mould (ok_Mould_init T) (hr.mono (by decide)) (by rfl) T.g_Mould T.b_Mould_init .nil pass0 (pa_cons (pv 3) (pa_cons (pv 4) pa_nil))))) rfl)
      (pss_cons (ps_fld (pv 0) (pe_glob (v := .ref T.C_NOTHING) rfl T.g_NOTHING rfl) rfl)
      (pss_one (ps_fld (pv 0) (pe_lstI pa_nil) rfl))))), ?_⟩
    have nrp : r ≠ p := ne_of hrr hp (fun z => by have y := (HO.ins.inj z).2.2; cases y)
    refine ⟨_, rfl, fun a da na nda ne => ?_⟩
    have s1 : Same H (upd (upd H da (.own a)) a (.ins T.C_SameRow da [])) := make_same na nda
    refine ⟨a, da, r, dr, k, m, rfl, upd_same, s1 _ _ hrr, fun H2 f2 hch => ⟨rfl, ?_⟩⟩
    have s2 : Same H H2 := fun b o e => f2 b o (ne_of_none e na) (s1 _ _ e)
    refine ⟨_, rfl, p, T.C_Moulds, dx, [], rfl, s2 _ _ hp, T.L_Moulds, T.n_Moulds__row, (by show 0 < 1000; decide), ?_⟩
    have o3 : Off K (· = p) H (upd H2 p (.ins T.C_Moulds dx [("_row", .ref a)])) := (Off.same s2).write rfl hp .ins
    have hp3 : (upd H2 p (.ins T.C_Moulds dx [("_row", .ref a)])) p = some (.ins T.C_Moulds dx [("_row", .ref a)]) := upd_same
    change (tSeq _ _) _ _ (upd H2 p (.ins T.C_Moulds dx [("_row", .ref a)]))
    generalize upd H2 p (.ins T.C_Moulds dx [("_row", .ref a)]) = J at o3 hp3
    refine ⟨_, rfl, r, T.C_Row, dr, _, _, rfl, o3.ins nrp hrr, T.L_Row, T.n_Row_moulds, rfl, m, rfl, ⟨_, o3.tk _ _ hm⟩, fun D hD => ?_⟩
    have hx3 : ∀ (i : Nat) (v : V) (z : RM), xs[i]? = some v → rs[i]? = some z → RmAt K J v z := fun i v z a b => (hx i v z a b).tk o3.tk
    refine dc_tup (K := K) (a := m) (xs := xs) (fun i H' => ∃ (c g : Str → Addr) (st : Str → Mo), Off K (fun _ => False) J H' ∧ H' D = some (.dK (byK kN ((rs.map (·.1)).take i) fun x => .ref (c x))) ∧
      (∀ x ∈ (rs.map (·.1)).take i, CellAt K T.C_Mould H' (c x) (g x) (st x) ∧ Nw J (c x) ∧ Nw J (g x) ∧ g x ≠ D) ∧ (∀ x ∈ (rs.map (·.1)).take i, ∀ y ∈ (rs.map (·.1)).take i, c x = c y → x = y) ∧ (∀ x ∈ (rs.map (·.1)).take i, ∀ y ∈ (rs.map (·.1)).take i, g x = g y → x = y) ∧ StOf st (rs.take i))
      ⟨fun _ => 0, fun _ => 0, fun _ => mo0 0 0, .new hD, upd_same, fun x hx => absurd hx List.not_mem_nil, fun x hx => absurd hx List.not_mem_nil, fun x hx => absurd hx List.not_mem_nil, fun x hx => absurd hx List.not_mem_nil⟩
      (fun i H' _ ⟨_, _, _, oJ, _⟩ => oJ.tk _ _ (o3.tk _ _ hm)) (fun i v H' hi w => ?_) ?_
    · obtain ⟨c, g, st, oJ, hd, hc, ci, gi, so⟩ := w
      have hi2 := (List.getElem?_eq_some_iff.mp hi).1
      obtain ⟨z, hz⟩ : ∃ z, rs[i]? = some z := ⟨_, List.getElem?_eq_getElem (by omega)⟩
      obtain ⟨t, dv, rfl, ht, hdv⟩ := (hx3 i v z hi hz).tk oJ.tk
      have hnz : (rs.map (·.1))[i]? = some z.1 := by rw [List.getElem?_map, hz] <;> rfl
      have notin : z.1 ∉ (rs.map (·.1)).take i := fun h => by
        have nd2 : ((rs.map (·.1)).take (i + 1)).Nodup := (List.take_sublist _ _).nodup nd
        rw [take_one hnz, List.nodup_append] at nd2
        exact nd2.2.2 _ h _ (List.mem_singleton.mpr rfl) rfl
      refine ⟨t, _, rfl, ht, rfl, _, _, rfl, _, _, rfl, _, _, rfl, rfl, rfl, yesT ?_⟩
      refine ⟨_, rfl, _, rfl, _, rfl, fun c2 dc n1 n2 ne2 => ?_⟩
      have o4 : Off K (· = D) H' (upd (upd H' dc (.own c2)) c2 (.ins T.C_Mould dc [])) := (Off.refl.fresh n2).fresh n1
      have c2D : c2 ≠ D := (ne_of_none hd n1).symm
      have hd4 : (upd (upd H' dc (.own c2)) c2 (.ins T.C_Mould dc [])) D = some (.dK (byK kN ((rs.map (·.1)).take i) fun x => .ref (c x))) := (by rw [upd_ne c2D.symm, upd_ne (ne_of_none hd n2)]; exact hd)
      refine ⟨c2, dc, z.2.1, dv, z.2.2, rfl, upd_same, hdv.tk o4.tk, fun g2 H5 ng hc5 o5 => ⟨rfl, ?_⟩⟩
      generalize upd (upd H' dc (.own c2)) c2 (.ins T.C_Mould dc []) = H4 at o4 hd4 ng o5
      have hd5 := o5.dK c2D.symm hd4
      have g2D : g2 ≠ D := (ne_of_none hd4 ng).symm
      have o15 : Off K (· = D) H' H5 := o4.trans o5 fun b e => .inr (.of (by rw [e]; exact n1))
      have e6 : putK (byK kN ((rs.map (·.1)).take i) fun x => V.ref (c x)) (kN z.1) (.ref c2) = byK kN ((rs.map (·.1)).take (i + 1)) fun x => .ref (set1 c z.1 c2 x) := by
        rw [byK_put kN_inj, take_one hnz]
        unfold addK
        rw [if_neg notin]
        refine byK_congr fun y _ => ?_
        show set1 (fun x => V.ref (c x)) z.1 (.ref c2) y = .ref (set1 c z.1 c2 y)
        by_cases e : y = z.1
        · rw [e, set1_same, set1_same]
        · rw [set1_ne e, set1_ne e]
      refine ⟨_, kN z.1, rfl, hd5, by rw [byK_len, List.length_take]; exact small' (by omega), ?_⟩
      rw [e6]
      have o6 : Off K (· = D) H' (upd H5 D (.dK (byK kN ((rs.map (·.1)).take (i + 1)) fun x => .ref (set1 c z.1 c2 x)))) := o15.write rfl hd .dK
      have o56 : Off K (· = D) H5 (upd H5 D (.dK (byK kN ((rs.map (·.1)).take (i + 1)) fun x => .ref (set1 c z.1 c2 x)))) := .put hd5 .dK rfl
      have nJ : ∀ b, Nw H' b → Nw J b := fun b k => Nw.back oJ id k
      have hc6 : CellAt K T.C_Mould (upd H5 D (.dK (byK kN ((rs.map (·.1)).take (i + 1)) fun x => .ref (set1 c z.1 c2 x)))) c2 g2 (mo0 z.2.1 z.2.2) := hc5.off o56 c2D g2D
      have ng' : Nw H' g2 := Nw.back o4 g2D (.of ng)
      have c2n : ∀ y ∈ (rs.map (·.1)).take i, c2 ≠ c y := fun y hy => by
        obtain ⟨⟨⟨dx9, dv9, jv9, k9, _⟩, _⟩, _⟩ := hc y hy
        exact (Nw.of n1).ne k9 .ins
      have g2n : ∀ y ∈ (rs.map (·.1)).take i, g2 ≠ g y := fun y hy => by
        obtain ⟨⟨_, f9, k9, _⟩, _⟩ := hc y hy
        exact ng'.ne k9 .dK
      have mem : ∀ y, y ∈ (rs.map (·.1)).take (i + 1) → y = z.1 ∨ (y ≠ z.1 ∧ y ∈ (rs.map (·.1)).take i) := fun y hy => by
        rw [take_one hnz] at hy
        rcases List.mem_append.mp hy with h | h
        · exact .inr ⟨fun e => notin (e ▸ h), h⟩
        · exact .inl (List.mem_singleton.mp h)
      refine ⟨set1 c z.1 c2, set1 g z.1 g2, set1 st z.1 (mo0 z.2.1 z.2.2), oJ.trans o6 (fun b e => .inr (.of (by rw [e]; exact hD))), upd_same, fun y hy => ?_, fun y hy u hu e => ?_, fun y hy u hu e => ?_, fun y hy => ?_⟩
      · rcases mem y hy with h | ⟨h, hm'⟩
        · rw [h, set1_same, set1_same, set1_same]
          exact ⟨hc6, nJ _ (.of n1), nJ _ ng', g2D⟩
        · rw [set1_ne h, set1_ne h, set1_ne h]
          obtain ⟨q1, q2, q3, q4⟩ := hc y hm'
          refine ⟨q1.off o6 (fun e => ?_) q4, q2, q3, q4⟩
          obtain ⟨⟨dx9, dv9, jv9, k9, _⟩, _⟩ := q1
          rw [e, hd] at k9
          cases k9
      · rcases mem y hy with h | ⟨h, hm'⟩
        · rcases mem u hu with h' | ⟨h', hm''⟩
          · rw [h, h']
          · rw [h, set1_same, set1_ne h'] at e
            exact absurd e (c2n u hm'')
        · rcases mem u hu with h' | ⟨h', hm''⟩
          · rw [h', set1_same, set1_ne h] at e
            exact absurd e.symm (c2n y hm')
          · rw [set1_ne h, set1_ne h'] at e
            exact ci y hm' u hm'' e
      · rcases mem y hy with h | ⟨h, hm'⟩
        · rcases mem u hu with h' | ⟨h', hm''⟩
          · rw [h, h']
          · rw [h, set1_same, set1_ne h'] at e
            exact absurd e (g2n u hm'')
        · rcases mem u hu with h' | ⟨h', hm''⟩
          · rw [h', set1_same, set1_ne h] at e
            exact absurd e.symm (g2n y hm')
          · rw [set1_ne h, set1_ne h'] at e
            exact gi y hm' u hm'' e
      · rw [take_one hz] at hy
        rcases List.mem_append.mp hy with h | h
        · have hn : y.1 ≠ z.1 := fun e => notin (by rw [← e, ← List.map_take]; exact List.mem_map.mpr ⟨y, h, rfl⟩)
          rw [set1_ne hn]
          exact so y h
        · rw [List.mem_singleton.mp h, set1_same]
    · rintro H4 ⟨c, g, st, oJ, hd, hc, ci, gi, so⟩
      rw [len, List.take_length] at so
      rw [show (rs.map (·.1)).take xs.length = rs.map (·.1) from List.take_of_length_le (by rw [List.length_map, len]; exact Nat.le_refl _)] at hd hc ci gi
      have hp4 := oJ.ins id hp3
      refine ⟨_, rfl, p, T.C_Moulds, dx, _, rfl, hp4, T.L_Moulds, T.n_Moulds__table, (by show 1 < 1000; decide), ?_⟩
      refine ⟨_, rfl, p, T.C_Moulds, dx, _, rfl, upd_same, T.L_Moulds, T.n_Moulds__vat, (by show 2 < 1000; decide), ?_⟩
      refine ⟨rfl, fun ll H7 s7 n7 h7 => ?_⟩
      refine ⟨_, rfl, p, T.C_Moulds, dx, _, rfl, s7 _ _ upd_same, T.L_Moulds, T.n_Moulds__loaves, (by show 3 < 1000; decide), ?_⟩
      have o47 : Off K (· = p) H4 H7 := (((Off.refl (K := K) (R := (· = p)) (H := H4)).write rfl hp4 .ins (o2 := .ins T.C_Moulds dx [("_row", .ref a), ("_table", .ref D)])).write rfl hp4 .ins (o2 := .ins T.C_Moulds dx [("_row", .ref a), ("_table", .ref D), ("_vat", .ref T.C_NOTHING)])).seq (.same s7)
      have o48 : Off K (· = p) H4 (upd H7 p (.ins T.C_Moulds dx (mfs (.ref a) D (.ref T.C_NOTHING) ll))) := o47.write rfl hp4 .ins
      have o08 : Off K (· = p) H (upd H7 p (.ins T.C_Moulds dx (mfs (.ref a) D (.ref T.C_NOTHING) ll))) := (o3.trans oJ fun _ h => h.elim).seq o48
      have pll : ll ≠ p := fun z => by rw [z, upd_same] at n7; cases n7
      have cp : ∀ x ∈ rs.map (·.1), c x ≠ p := fun x hx => (hc x hx).2.1.ne hp3 .ins
      have gp : ∀ x ∈ rs.map (·.1), g x ≠ p := fun x hx => (hc x hx).2.2.1.ne hp3 .ins
      have Dp : D ≠ p := (ne_of_none hp3 hD).symm
      have nH : ∀ b, b ≠ p → Nw J b → Nw H b := fun b n k => Nw.back o3 n k
      refine q ⟨p, D, ll, c, g⟩ st _ rfl ⟨⟨dx, .ref a, .ref T.C_NOTHING, upd_same, _, rfl, NOTH T.q_NOTHING⟩, .inl (o48.dK Dp hd), ⟨[], by rw [upd_ne pll]; exact h7, Nat.zero_le _, .nil⟩, fun x hx => (hc x hx).1.off o48 (cp x hx) (gp x hx), ci, gi, fun x hx => (hc x hx).2.2.2, cp⟩ so o08 (fun b hb => ?_) (nH _ Dp (.of hD))
      rcases hb with h | h | ⟨x, hx, h | h⟩
      · exact .inl h
      · refine .inr ?_
        have e : b = ll := h
        rw [e]
        have k4 : Nw H4 ll := by
          refine Nw.back (R := (· = p)) (H' := upd (upd H4 p (.ins T.C_Moulds dx [("_row", .ref a), ("_table", .ref D)])) p (.ins T.C_Moulds dx [("_row", .ref a), ("_table", .ref D), ("_vat", .ref T.C_NOTHING)])) (K := K) (((Off.refl (K := K) (R := (· = p)) (H := H4)).write rfl hp4 .ins).write rfl hp4 .ins) pll (.of n7)
        exact nH _ pll (Nw.back oJ id k4)
      · exact .inr (by rw [h]; exact nH _ (cp x hx) (hc x hx).2.1)
      · exact .inr (by rw [h]; exact nH _ (gp x hx) (hc x hx).2.2.1)

end
end KR
namespace KR
open PySem PySem.Spec PyProof.Rows L2
section
variable {P : Program} {w : World} {K : PySem.W.Frag} {mg : Str → Option Value} {base : Heap}
theorem ok_Moulds__named (T : All K mg) : FnOk P w K mg base (L2.CX P w) 3 T.f_Moulds__named T.fd_Moulds__named ["self", "name"] (sp_Moulds_named K T.C_Moulds T.C_NoMould) := by
  refine T.F_Moulds__named.okX sc_Moulds__named (fun vs H Q E h => ?_) (fun cdv A outer s H vs Q E hr h => ?_)
  · obtain ⟨p, t, l, dx, rv, vv, x, nms, c, rfl, _⟩ := h
    rfl
  · obtain ⟨p, t, l, dx, rv, vv, x, nms, c, rfl, hp, ht, w1, w2⟩ := h
    refine ⟨_, (pss_cons (ps_if (PW.pt (pw_or (pt_not (pt_val (pe_callB (isiK (K := K) rfl) (by rfl) T.b_isinstance (by decide +kernel) (pa_cons (pv 1) (pa_cons (pe_bltn (v := .ty "str") (by rfl) T.b_str (by decide +kernel) rfl) pa_nil))))) (pw_or1 (pt_cmp (pc_dnotin (hu_of hr) (pv 1) (pe_fldK (K := K) rfl (pv 0) rfl)) (by with_unfolding_all rfl))))) (pss_one (ps_raise rfl (takes_of rfl rfl rfl rfl) (pmk_oex T.O_NoMould T.i_NoMould T.tI_NoMould (ok_init_NoMould T) (hr.mono (by decide)) T.bI_NoMould .nil pass0 rfl T.g_NoMould (by exact (pa_cons (pv 1) pa_nil))))) pss_nil)
      (pss_one (ps_ret (pe_dget (hu_of hr) (pe_fldK (K := K) rfl (pv 0) rfl) (pv 1) (fun _ _ => rfl))))), ?_⟩
    refine ⟨_, rfl, _, _, _, _, _, rfl, .ty _, .base (.str x), kit_ty (show kitB "str" "str" = some true by decide +kernel), _, rfl, ?_⟩
    refine iteF ?_
    refine ⟨_, rfl, _, rfl, p, T.C_Moulds, dx, _, _, rfl, hp, T.L_Moulds, T.n_Moulds__table, rfl, ?_⟩
    by_cases hx : x ∈ nms
    · refine ⟨t, some _, rfl, dget_n ht hx, _, rfl, iteF ?_⟩
      exact ⟨_, rfl, p, T.C_Moulds, dx, _, _, rfl, hp, T.L_Moulds, T.n_Moulds__table, rfl, _, rfl, t, _, rfl, dget_n ht hx, w2 hx⟩
    · refine ⟨t, none, rfl, dget_n0 ht hx, _, rfl, iteT ?_⟩
      refine ⟨_, rfl, by show 1 ≤ 1000; decide, fun b hb => ⟨b, .str x, rfl, upd_same, fun d hd hne => ?_⟩⟩
      rw [upd_ne hne] at hd
      refine ⟨rfl, d, (wh "NoMould" (.str x)), upd_same, by rw [upd_ne hne, upd_same], hd, ?_⟩
      exact w1 hx d _ (raised_keeps (o1 := exo b T.C_NoMould none) (o2 := exd d (wh "NoMould" (.str x))) (o3 := exo b T.C_NoMould (some d)) (o4 := .xd (wh "NoMould" (.str x))) hb hd) upd_same

end
end KR
namespace KR
open PySem PySem.Spec PyProof.Rows L2
section
variable {P : Program} {w : World} {K : PySem.W.Frag} {mg : Str → Option Value} {base : Heap}
theorem ok_Moulds__juices_behind (T : All K mg) : FnOk P w K mg base (L2.CX P w) 6 T.f_Moulds__juices_behind T.fd_Moulds__juices_behind ["self", "pours"] (sp_Moulds__juices_behind K T.C_Moulds T.C_Mould T.C_NoMould T.C_Cured T.C_NoRoom) := by
  refine T.F_Moulds__juices_behind.okX sc_Moulds__juices_behind (fun vs H Q E h => ?_) (fun cdv A outer s H vs Q E hr h => ?_)
  · obtain ⟨A, nms, st, v1, v2, lds, l, pvs, ps, rfl, _⟩ := h
    rfl
  · obtain ⟨Ad, nms, st, v1, v2, lds, l, pvs, ps, rfl, hm, hl, len, hp, l9, bp, bb, br, w0, w1, w2, w3⟩ := h
    refine ⟨_, (pss_cons (ps_set (i := 2) sc_Moulds__juices_behind.nd rfl (by first | exact Or.inl rfl | exact Or.inr rfl) pe_dnewK)
      (pss_cons (ps_for PassesOwn.leaving rfl (pi_listK (K := K) rfl (pv 1)) (pg_tupK (K := K) rfl rfl (pgs_cons (pg_name (i := 3) sc_Moulds__juices_behind.nd rfl (by first | exact Or.inl rfl | exact Or.inr rfl)) (pgs_cons (pg_name (i := 4) sc_Moulds__juices_behind.nd rfl (by first | exact Or.inl rfl | exact Or.inr rfl)) pgs_nil))) (pss_cons (ps_set (i := 5) sc_Moulds__juices_behind.nd rfl (by first | exact Or.inl rfl | exact Or.inr rfl) (pe_meth (pv 0) T.L_Moulds T.m_Moulds__named (ok_Moulds__named T) (hr.mono (by decide)) T.b_Moulds__named .nil (passes_call (takes_of rfl rfl rfl rfl) (fun _ _ _ _ h => h)) (pa_cons (pv 3) pa_nil)))
      (pss_cons (ps_if (pt_val (pe_fldK (K := K) rfl (pv 5) rfl)) (pss_one (ps_raise rfl (takes_of rfl rfl rfl rfl) (pmk_oex T.O_Cured T.i_Cured T.tI_Cured (ok_init_Cured T) (hr.mono (by decide)) T.bI_Cured .nil pass0 rfl T.g_Cured (by exact (pa_cons (pv 3) pa_nil))))) pss_nil)
      (pss_one (ps_asg (pe_call (ok_p_poured_into T) hr (by rfl) T.d_p_poured_into.mg T.d_p_poured_into.fn.kp T.d_p_poured_into.b .nil (passes_call (takes_of rfl rfl rfl rfl) (fun _ _ _ _ h => h)) (pa_cons (pv 3) (pa_cons (pe_fldK (K := K) rfl (pv 5) rfl) (pa_cons (pe_dget2 (hu_of hr) (pv 2) (pv 3) (pe_fldK (K := K) rfl (pv 5) rfl) (by exact ⟨rfl, rfl, rfl, rfl⟩)) (pa_cons (pv 4) pa_nil))))) (pg_sub (pv 2) (pv 3) (set_dict (hu_of hr))))))))
      (pss_one (ps_ret (pv 2))))), ?_⟩
    intro D hD
    have s0 : Same H (upd H D (.dK [])) := same_new hD
    refine ⟨_, rfl, l, rfl, ⟨_, s0.seq hl⟩, ?_⟩
    refine for_list (K := K) (a := l) (xs := pvs) (fun i σ H' => ∃ (f : Str → V) (v3 v4 v5 : Option V), σ = [some (.ref Ad.p), some (.ref l), some (.ref D), v3, v4, v5] ∧ Same H H' ∧ H' D = some (.dK (byK kN (pks (ps.take i)) f)) ∧ (∀ x ∈ pks (ps.take i), JQ K H' (f x) (beh (jus st) (ps.take i) x).1 (beh (jus st) (ps.take i) x).2) ∧ pflt nms st (beh (jus st) (ps.take i)) (ps.drop i) = pflt nms st (jus st) ps ∧ (∀ x ∈ nms, x ∉ pks (ps.take i) → beh (jus st) (ps.take i) x = jus st x) ∧ (pks (ps.take i)).length ≤ i) ⟨fun _ => .non, none, none, none, rfl, s0, upd_same, fun x hx => absurd hx List.not_mem_nil, rfl, fun _ _ _ => rfl, Nat.le_refl _⟩ (fun i σ H' _ ⟨_, _, _, _, _, sm, _⟩ => sm.seq hl) ?_ ?_
    · rintro i v σ H' hi ⟨f, v3, v4, v5, rfl, sm, hd, hj, hf, hn, hk⟩
      have hi2 := (List.getElem?_eq_some_iff.mp hi).1
      obtain ⟨p, hpi⟩ : ∃ p, ps[i]? = some p := ⟨_, List.getElem?_eq_getElem (by omega)⟩
      obtain ⟨t, j, rfl, ht0, hj0⟩ := (hp i v p hi hpi).tk (TK.same sm)
      have hm1 := hm.same sm
      obtain ⟨⟨dx, rv, vv, h1, h2⟩, ht, _, hc, _⟩ := hm1
      have pin : p ∈ ps := List.mem_of_getElem? hpi
      refine ⟨t, _, rfl, ht0, rfl, _, _, rfl, _, _, rfl, rfl, ?_⟩
      rw [drop_at hpi, pflt] at hf
      refine ⟨_, rfl, Ad.p, dx, _, rfl, h1, rfl, _, rfl, Ad.p, Ad.t, Ad.l, dx, rv, vv, p.1, nms, Ad.c, rfl, h1, ht, fun hx => ?_, fun hx => ?_⟩
      · rw [if_pos hx] at hf
        exact (w0 p.1 hf.symm).same sm
      rw [if_neg (fun z => z hx)] at hf
      obtain ⟨⟨dc, dv, jv, k1, k2, jj, rfl, k3⟩, _⟩ := hc p.1 hx
      cases hcur : (st p.1).cur with
      | true =>
        rw [if_pos hcur] at hf
        refine ⟨_, rfl, Ad.c p.1, T.C_Mould, dc, _, _, rfl, k1, T.L_Mould, T.n_Mould_cured, rfl, _, rfl, ?_⟩
        rw [hcur]
        refine iteT ?_
        refine ⟨_, rfl, by show 1 ≤ 1000; decide, fun b hb => ⟨b, (.str p.1), rfl, upd_same, fun d hd hne => ?_⟩⟩
        rw [upd_ne hne] at hd
        refine ⟨rfl, d, (wh "Cured" (.str p.1)), upd_same, by rw [upd_ne hne, upd_same], hd, ?_⟩
        have kp := raised_keeps (o1 := exo b T.C_Cured none) (o2 := exd d (wh "Cured" (.str p.1))) (o3 := exo b T.C_Cured (some d)) (o4 := .xd (wh "Cured" (.str p.1))) hb hd
        exact w1 p.1 hf.symm d _ (sm.trans kp) upd_same
      | false =>
        rw [if_neg (by rw [hcur]; decide)] at hf
        refine ⟨_, rfl, Ad.c p.1, T.C_Mould, dc, _, _, rfl, k1, T.L_Mould, T.n_Mould_cured, rfl, _, rfl, ?_⟩
        rw [hcur]
        refine iteF ?_
        obtain ⟨o, a, og, oe, ja⟩ : ∃ (o : Option V) (a : Addr), DGet H' D (.str p.1) o ∧ o.getD (.ref jj) = .ref a ∧ JuQ K H' a (beh (jus st) (ps.take i) p.1).1 (beh (jus st) (ps.take i) p.1).2 := by
          by_cases c : p.1 ∈ pks (ps.take i)
          · obtain ⟨a, e, ja⟩ := hj p.1 c
            exact ⟨_, a, dget_n (.inl hd) c, e, ja⟩
          · refine ⟨_, jj, dget_n0 (.inl hd) c, rfl, ?_⟩
            rw [hn p.1 hx c]
            exact k3
        obtain ⟨b1, b2, b3⟩ := bb i (by omega) p.1 hx
        have c1 := bb (i + 1) (by omega) p.1 hx
        rw [beh_take hpi] at c1
        unfold jst at c1
        rw [set1_same] at c1
        obtain ⟨c1, c2, c3⟩ := c1
        obtain ⟨d1, d2⟩ := bp p pin
        refine ⟨_, rfl, _, rfl, Ad.c p.1, T.C_Mould, dc, _, _, rfl, k1, T.L_Mould, T.n_Mould_room, rfl, _, rfl, D, rfl, .inl ⟨_, .inl hd⟩, _, rfl, _, rfl, Ad.c p.1, T.C_Mould, dc, _, _, rfl, k1, T.L_Mould, T.n_Mould_juice, rfl, o, og, _, rfl, ?_⟩
        refine ⟨.str p.1, (st p.1).room, a, j, _, _, p.2.1, p.2.2, by rw [oe] <;> rfl, ja, hj0, b1, b2, d1, d2, c1, c2, c3, br p.1 hx, fun lt => ?_, fun nlt z H2 s2 hz => ?_⟩
        · rw [if_pos lt] at hf
          exact (w2 p.1 hf.symm).same sm
        rw [if_neg nlt] at hf
        have hd2 := s2 _ _ hd
        refine ⟨_, rfl, _, rfl, D, _, rfl, dput_n hd2 (by omega), ?_⟩
        have tk3 : TK K H2 (upd H2 D (.dK (byK kN (addK (pks (ps.take i)) p.1) (set1 f p.1 (.ref z))))) := TK.upd hd2 (fun _ y => by cases y) (fun _ _ y => by cases y)
        refine ⟨set1 f p.1 (.ref z), _, _, _, rfl, Same.put (sm.trans s2) hD, ?_, ?_, ?_, ?_, ?_⟩
        · rw [pks_take hpi, upd_same]
        · rw [pks_take hpi, beh_take hpi]
          intro x hx2
          unfold jst
          by_cases e : x = p.1
          · subst e
            rw [set1_same, set1_same]
            exact ⟨z, rfl, hz.tk tk3⟩
          · rw [set1_ne e, set1_ne e]
            exact ((hj x ((mem_addK.mp hx2).resolve_right e)).tk (TK.same s2)).tk tk3
        · rw [beh_take hpi]
          exact hf
        · rw [pks_take hpi, beh_take hpi]
          intro x hx2 nx
          unfold jst
          rw [set1_ne (fun e => nx (mem_addK.mpr (.inr e)))]
          exact hn x hx2 fun z => nx (mem_addK.mpr (.inl z))
        · rw [pks_take hpi]
          have := addK_len (l := pks (ps.take i)) (x := p.1)
          omega
    · rintro σ H' ⟨f, v3, v4, v5, rfl, sm, hd, hj, hf, hn, hk⟩
      rw [len, List.take_length] at hd hj hf
      rw [List.drop_length] at hf
      exact ⟨_, rfl, w3 hf.symm D f H' hD sm hd hj⟩

end
end KR
namespace KR
open PySem PySem.Spec PyProof.Rows L2
section
variable {P : Program} {w : World} {K : PySem.W.Frag} {mg : Str → Option Value} {base : Heap}
theorem ok_Moulds_fill (T : All K mg) : FnOk P w K mg base (L2.CX P w) 7 T.f_Moulds_fill T.fd_Moulds_fill ["self", "strike", "pours"] (sp_Moulds_fill K T.C_Moulds T.C_Mould T.C_NoMould T.C_Cured T.C_NoRoom) := by
  refine T.F_Moulds_fill.okX sc_Moulds_fill (fun vs H Q E h => ?_) (fun cdv A outer s H vs Q E hr h => ?_)
  · obtain ⟨A, nms, st, v1, v2, lds, k, l, pvs, ps, rfl, _⟩ := h
    rfl
  · obtain ⟨Ad, nms, st, v1, v2, lds, k, l, pvs, ps, rfl, hm, hl, nl, len, hp, l9, bp, bb, br, bf, w0, w1, w2, w3⟩ := h
    refine ⟨_, (pss_cons (ps_set (i := 3) sc_Moulds_fill.nd rfl (by first | exact Or.inl rfl | exact Or.inr rfl) (pe_meth (pv 0) T.L_Moulds T.m_Moulds__juices_behind (ok_Moulds__juices_behind T) hr T.b_Moulds__juices_behind .nil (passes_call (takes_of rfl rfl rfl rfl) (fun _ _ _ _ h => h)) (pa_cons (pv 2) pa_nil)))
      (pss_one (ps_for PassesOwn.leaving rfl (pi_listK (K := K) rfl (pv 2)) (pg_tupK (K := K) rfl rfl (pgs_cons (pg_name (i := 4) sc_Moulds_fill.nd rfl (by first | exact Or.inl rfl | exact Or.inr rfl)) (pgs_cons (pg_name (i := 5) sc_Moulds_fill.nd rfl (by first | exact Or.inl rfl | exact Or.inr rfl)) pgs_nil))) (pss_cons (ps_set (i := 6) sc_Moulds_fill.nd rfl (by first | exact Or.inl rfl | exact Or.inr rfl) (pe_dget (hu_of hr) (pe_fldK (K := K) rfl (pv 0) rfl) (pv 4) (fun _ _ => rfl)))
      (pss_cons (ps_fld (pv 6) (pe_dget (hu_of hr) (pv 3) (pv 4) (fun _ _ => rfl)) rfl)
      (pss_one (ps_expr (pe_meth (pv 6) T.L_Mould T.m_Mould_bear (ok_Mould_bear T) (hr.mono (by decide)) T.b_Mould_bear .nil pass0 (pa_cons (pv 1) (pa_cons (pe_ix (ixT (K := K) rfl) (pv 5) pe_int (fun _ _ => rfl)) pa_nil)))))))))), ?_⟩
    have hm0 := hm
    obtain ⟨⟨dx, rv, vv, h1, h2⟩, ht, _, hc, _⟩ := hm
    refine ⟨_, rfl, Ad.p, dx, _, rfl, h1, rfl, _, rfl, Ad, nms, st, v1, v2, lds, l, pvs, ps, rfl, hm0, hl, len, hp, l9, bp, bb, br, w0, w1, w2, fun ok D f H1 nD s1 hd hj => ?_⟩
    have nRD : ¬ Ad.R nms D := fun z => by
      obtain ⟨o, e, _⟩ := hm0.there z
      rw [nD] at e
      cases e
    have allin : ∀ (qs : List Pour) (F : Str → Ju), pflt nms st F qs = none → ∀ p ∈ qs, p.1 ∈ nms := by
      intro qs
      induction qs with
      | nil => intro F _ p hp; cases hp
      | cons q r ih =>
        intro F e p hp
        rw [pflt] at e
        by_cases c : q.1 ∉ nms
        · rw [if_pos c] at e; cases e
        · rw [if_neg c] at e
          by_cases c2 : (st q.1).cur = true
          · rw [if_pos c2] at e; cases e
          · rw [if_neg c2] at e
            by_cases c3 : ((st q.1).room : Rat) < (F q.1).1 + q.2.1 + ((F q.1).2 + q.2.2)
            · rw [if_pos c3] at e; cases e
            · rw [if_neg c3] at e
              rcases List.mem_cons.mp hp with z | z
              · rw [z]; exact Classical.not_not.mp c
              · exact ih _ e p z
    have inp : ∀ p ∈ ps, p.1 ∈ nms := allin ps _ ok
    have pkin : ∀ (qs : List Pour) (l0 : List Str) (x : Str), (x ∈ l0 ∨ ∃ p ∈ qs, p.1 = x) → x ∈ qs.foldl (fun l p => addK l p.1) l0 := by
      intro qs
      induction qs with
      | nil => intro l0 x h; exact h.resolve_right (fun ⟨p, hp, _⟩ => by cases hp)
      | cons q r ih =>
        intro l0 x h
        refine ih _ x ?_
        rcases h with h | ⟨p, hp, e⟩
        · exact .inl (mem_addK.mpr (.inl h))
        · rcases List.mem_cons.mp hp with z | z
          · exact .inl (mem_addK.mpr (.inr (by rw [← e, z])))
          · exact .inr ⟨p, z, e⟩
    have hm1 := hm0.same s1
    refine ⟨_, rfl, l, rfl, ⟨_, s1.seq hl⟩, ?_⟩
    refine for_list (K := K) (a := l) (xs := pvs) (fun i σ H' => ∃ (u4 u5 u6 : Option V), σ = [some (.ref Ad.p), some (.int k), some (.ref l), some (.ref D), u4, u5, u6] ∧ Off K (Ad.R nms) H1 H' ∧ MouldsAt K T.C_Moulds T.C_Mould H' Ad nms ((ps.take i).foldl (fst1 (beh (jus st) ps) k) st) v1 v2 lds) ⟨none, none, none, rfl, .refl, hm1⟩ (fun i σ H' _ ⟨_, _, _, _, of, _⟩ => of.seqL nl (s1.seq hl)) ?_ ?_
    · rintro i v σ H' hi ⟨u4, u5, u6, rfl, of, mi⟩
      have hi2 := (List.getElem?_eq_some_iff.mp hi).1
      obtain ⟨p, hpi⟩ : ∃ p, ps[i]? = some p := ⟨_, List.getElem?_eq_getElem (by omega)⟩
      obtain ⟨t, j, rfl, ht0, hj0⟩ := ((hp i v p hi hpi).tk (TK.same s1)).tk of.tk
      have pin : p ∈ ps := List.mem_of_getElem? hpi
      have hx := inp p pin
      have hpk : p.1 ∈ pks ps := pkin ps [] p.1 (.inr ⟨p, pin, rfl⟩)
      obtain ⟨bl, bq⟩ := bf i (by omega) p.1 hx
      have mi0 := mi
      generalize eS : (ps.take i).foldl (fst1 (beh (jus st) ps) k) st = S at mi mi0 bl bq
      obtain ⟨⟨dx2, rv2, vv2, g1, g2⟩, gt, _, gc, _⟩ := mi
      obtain ⟨⟨dc, dv, jv, k1, k2, k3⟩, fs, k4, k5⟩ := gc p.1 hx
      have hdD := of.dK nRD hd
      obtain ⟨ja, eja, hja⟩ := (hj p.1 hpk).tk of.tk
      obtain ⟨sj, wj, q1, q2, q3⟩ := hj0
      have cg := (gc p.1 hx).ne
      refine ⟨t, _, rfl, ht0, rfl, _, _, rfl, _, _, rfl, rfl, ?_⟩
      refine ⟨_, rfl, Ad.p, T.C_Moulds, dx2, _, _, rfl, g1, T.L_Moulds, T.n_Moulds__table, rfl, _, rfl, Ad.t, _, rfl, dget_n gt hx, ?_⟩
      refine ⟨_, rfl, _, rfl, D, _, rfl, dget_n (.inl hdD) hpk, _, rfl, Ad.c p.1, T.C_Mould, dc, _, rfl, k1, T.L_Mould, T.n_Mould_juice, (by show 5 < 1000; decide), ?_⟩
      have o1 : Off K (· = Ad.c p.1) H' (upd H' (Ad.c p.1) (.ins T.C_Mould dc (mf (S p.1).room dv (f p.1) (Ad.g p.1) (S p.1).cur))) := .put k1 .ins rfl
      have c1 : CellAt K T.C_Mould (upd H' (Ad.c p.1) (.ins T.C_Mould dc (mf (S p.1).room dv (f p.1) (Ad.g p.1) (S p.1).cur))) (Ad.c p.1) (Ad.g p.1) ((S p.1).poured (beh (jus st) ps p.1).1 (beh (jus st) ps p.1).2) :=
        ⟨⟨dc, dv, f p.1, upd_same, k2.tk o1.tk, JQ.tk (v := f p.1) ⟨ja, eja, hja⟩ o1.tk⟩, fs, by rw [upd_ne cg.symm]; exact k4, fun y hy => (k5 y hy).tk o1.tk⟩
      refine ⟨_, rfl, Ad.c p.1, dc, _, rfl, upd_same, rfl, _, rfl, _, rfl, j, _, 0, _, rfl, rfl, o1.tk _ _ q1, at0, Ad.c p.1, Ad.g p.1, _, k, sj, p.2.1, rfl, c1, q2.tk o1.tk, (bp p pin).1, bq, bl, fun H3 hc3 o3 => ?_⟩
      have o13 : Off K (fun a => a = Ad.c p.1 ∨ a = Ad.g p.1) H' H3 := (o1.mono fun _ z => .inl z).seq (o3.mono fun _ z => .inr z)
      refine ⟨_, _, _, rfl, of.seq (o13.mono fun b z => .inr (.inr ⟨p.1, hx, z⟩)), ?_⟩
      rw [foldl_take hpi, eS]
      exact mi0.set hx o13 hc3
    · rintro σ H' ⟨u4, u5, u6, rfl, of, mi⟩
      rw [len, List.take_length] at mi
      exact w3 ok H' mi ((Off.same s1).seq of)

end
end KR
namespace KR
open PySem PySem.Spec PyProof.Rows L2
section
variable {P : Program} {w : World} {K : PySem.W.Frag} {mg : Str → Option Value} {base : Heap}
theorem ok_Moulds_drain (T : All K mg) : FnOk P w K mg base (L2.CX P w) 5 T.f_Moulds_drain T.fd_Moulds_drain ["self", "mould"] (sp_Moulds_drain K T.C_Moulds T.C_Mould T.C_NoMould T.C_Empty T.C_Cured) := by
  refine T.F_Moulds_drain.okX sc_Moulds_drain (fun vs H Q E h => ?_) (fun cdv A outer s H vs Q E hr h => ?_)
  · obtain ⟨A, nms, st, v1, v2, lds, x, rfl, _⟩ := h
    rfl
  · obtain ⟨Ad, nms, st, v1, v2, lds, x, rfl, hm, ft, b1, b2, w1, w2, w3, w4⟩ := h
    refine ⟨_, (pss_cons (ps_set (i := 2) sc_Moulds_drain.nd rfl (by first | exact Or.inl rfl | exact Or.inr rfl) (pe_meth (pv 0) T.L_Moulds T.m_Moulds__named (ok_Moulds__named T) (hr.mono (by decide)) T.b_Moulds__named .nil (passes_call (takes_of rfl rfl rfl rfl) (fun _ _ _ _ h => h)) (pa_cons (pv 1) pa_nil)))
      (pss_cons (ps_expr (pe_call (ok_p_need_some T) (hr.mono (by decide)) (by rfl) T.d_p_need_some.mg T.d_p_need_some.fn.kp T.d_p_need_some.b .nil (passes_call (takes_of rfl rfl rfl rfl) (fun _ _ _ _ h => h)) (pa_cons (pv 1) (pa_cons (pe_fldK (K := K) rfl (pv 2) rfl) pa_nil))))
      (pss_cons (ps_if (pt_val (pe_fldK (K := K) rfl (pv 2) rfl)) (pss_one (ps_raise rfl (takes_of rfl rfl rfl rfl) (pmk_oex T.O_Cured T.i_Cured T.tI_Cured (ok_init_Cured T) (hr.mono (by decide)) T.bI_Cured .nil pass0 rfl T.g_Cured (by exact (pa_cons (pv 1) pa_nil))))) pss_nil)
      (pss_cons (ps_set (i := 3) sc_Moulds_drain.nd rfl (by first | exact Or.inl rfl | exact Or.inr rfl) (pe_meth0 (pv 2) T.L_Mould T.m_Mould_drip_out (ok_Mould_drip_out T) (hr.mono (by decide)) T.b_Mould_drip_out .nil pass0))
      (pss_cons (ps_fld (pv 0) (pe_call (ok_p_mixed T) (hr.mono (by decide)) (by rfl) T.d_p_mixed.mg T.d_p_mixed.fn.kp T.d_p_mixed.b .nil pass0 (pa_cons (pe_fldK (K := K) rfl (pv 0) rfl) (pa_cons (pv 3) pa_nil))) rfl)
      (pss_one (ps_ret (pv 3)))))))), ?_⟩
    have hm0 := hm
    obtain ⟨⟨dx, rv, vv, h1, vj, rfl, h2⟩, ht, hl, hc, ci, gi, gt⟩ := hm
    refine ⟨_, rfl, Ad.p, dx, _, rfl, h1, rfl, _, rfl, Ad.p, Ad.t, Ad.l, dx, rv, .ref vj, x, nms, Ad.c, rfl, h1, ht, w1, fun hx => ?_⟩
    obtain ⟨⟨dc, dv, jv, k1, k2, jj, rfl, k3⟩, f, k4, k5⟩ := hc x hx
    refine ⟨_, rfl, _, rfl, Ad.c x, T.C_Mould, dc, _, _, rfl, k1, T.L_Mould, T.n_Mould_juice, rfl, .str x, jj, (st x).s, (st x).w, rfl, k3, w2 hx, fun ne H1 s1 => ?_⟩
    cases hcur : (st x).cur with
    | true =>
      refine ⟨_, rfl, Ad.c x, T.C_Mould, dc, _, _, rfl, s1 _ _ k1, T.L_Mould, T.n_Mould_cured, rfl, _, rfl, ?_⟩
      rw [hcur]
      refine iteT ?_
      refine ⟨_, rfl, by show 1 ≤ 1000; decide, fun b hb => ⟨b, (.str x), rfl, upd_same, fun d hd hne => ?_⟩⟩
      rw [upd_ne hne] at hd
      refine ⟨rfl, d, (wh "Cured" (.str x)), upd_same, by rw [upd_ne hne, upd_same], hd, ?_⟩
      have kp := raised_keeps (o1 := exo b T.C_Cured none) (o2 := exd d (wh "Cured" (.str x))) (o3 := exo b T.C_Cured (some d)) (o4 := .xd (wh "Cured" (.str x))) hb hd
      exact w3 hx ne hcur d _ (s1.trans kp) upd_same
    | false =>
      refine ⟨_, rfl, Ad.c x, T.C_Mould, dc, _, _, rfl, s1 _ _ k1, T.L_Mould, T.n_Mould_cured, rfl, _, rfl, ?_⟩
      rw [hcur]
      refine iteF ?_
      refine ⟨_, rfl, Ad.c x, dc, _, rfl, s1 _ _ k1, rfl, Ad.c x, Ad.g x, st x, rfl, (hm0.cell x hx).same s1, ft hx, fun a H2 hc2 hj2 o2 => ?_⟩
      have o12 : Off K (fun b => b = Ad.c x ∨ b = Ad.g x) H1 H2 := o2.mono fun _ z => .inl z
      have m2 := (hm0.same s1).set hx o12 hc2
      have np : ¬ (Ad.p = Ad.c x) := fun z => hm0.cp x hx z.symm
      have h1' := o2.ins np (s1 _ _ h1)
      refine ⟨_, rfl, Ad.p, T.C_Moulds, dx, _, _, rfl, h1', T.L_Moulds, T.n_Moulds__vat, rfl, _, rfl, vj, a, v1, v2, _, _, rfl, (h2.same s1).tk o2.tk, hj2, b1, b2, (ft hx).gone, (ft hx).w, fun z H3 s3 hz => ?_⟩
      refine ⟨_, rfl, Ad.p, T.C_Moulds, dx, _, rfl, s3 _ _ h1', T.L_Moulds, T.n_Moulds__vat, (by show 4 < 1000; decide), ?_⟩
      have m3 := (m2.same s3).vat (s3 _ _ h1') ⟨z, rfl, hz⟩
      have o3 : Off K (Ad.R nms) H _ := ((Off.same s1).seq (o12.mono fun b z => .inr (.inr ⟨x, hx, z⟩))).seq ((Off.same s3).seq (.put (s3 _ _ h1') .ins (.inl rfl) (o2 := .ins T.C_Moulds dx (mfs rv Ad.t (.ref z) Ad.l))))
      refine ⟨_, rfl, w4 hx ne hcur a _ m3 ((hj2.same s3).tk ?_) o3⟩
      exact TK.upd (s3 _ _ h1') (fun _ y => by cases y) (fun _ _ y => by cases y)

end
end KR
namespace KR
open PySem PySem.Spec PyProof.Rows L2
section
variable {P : Program} {w : World} {K : PySem.W.Frag} {mg : Str → Option Value} {base : Heap}
theorem ok_Moulds_knock (T : All K mg) : FnOk P w K mg base (L2.CX P w) 5 T.f_Moulds_knock T.fd_Moulds_knock ["self", "mould"] (sp_Moulds_knock K T.C_Moulds T.C_Mould T.C_NoMould T.C_Empty T.C_NotCured) := by
  refine T.F_Moulds_knock.okX sc_Moulds_knock (fun vs H Q E h => ?_) (fun cdv A outer s H vs Q E hr h => ?_)
  · obtain ⟨A, nms, st, v1, v2, lds, x, rfl, _⟩ := h
    rfl
  · obtain ⟨Ad, nms, st, v1, v2, lds, x, rfl, hm, ft, lb, w1, w2, w3, w4⟩ := h
    refine ⟨_, (pss_cons (ps_set (i := 2) sc_Moulds_knock.nd rfl (by first | exact Or.inl rfl | exact Or.inr rfl) (pe_meth (pv 0) T.L_Moulds T.m_Moulds__named (ok_Moulds__named T) (hr.mono (by decide)) T.b_Moulds__named .nil (passes_call (takes_of rfl rfl rfl rfl) (fun _ _ _ _ h => h)) (pa_cons (pv 1) pa_nil)))
      (pss_cons (ps_expr (pe_call (ok_p_need_some T) (hr.mono (by decide)) (by rfl) T.d_p_need_some.mg T.d_p_need_some.fn.kp T.d_p_need_some.b .nil (passes_call (takes_of rfl rfl rfl rfl) (fun _ _ _ _ h => h)) (pa_cons (pv 1) (pa_cons (pe_fldK (K := K) rfl (pv 2) rfl) pa_nil))))
      (pss_cons (ps_if (pt_not (pt_val (pe_fldK (K := K) rfl (pv 2) rfl))) (pss_one (ps_raise rfl (takes_of rfl rfl rfl rfl) (pmk_oex T.O_NotCured T.i_NotCured T.tI_NotCured (ok_init_NotCured T) (hr.mono (by decide)) T.bI_NotCured .nil pass0 rfl T.g_NotCured (by exact (pa_cons (pv 1) pa_nil))))) pss_nil)
      (pss_cons (ps_set (i := 3) sc_Moulds_knock.nd rfl (by first | exact Or.inl rfl | exact Or.inr rfl) (pe_ix (ixT (K := K) rfl) (pe_fldK (K := K) rfl (pv 2) rfl) pe_int (fun _ _ => rfl)))
      (pss_cons (ps_set (i := 4) sc_Moulds_knock.nd rfl (by first | exact Or.inl rfl | exact Or.inr rfl) (pe_meth0 (pv 2) T.L_Mould T.m_Mould_strike_shares (ok_Mould_strike_shares T) (hr.mono (by decide)) T.b_Mould_strike_shares .nil pass0))
      (pss_cons (ps_expr (pe_meth0 (pv 2) T.L_Mould T.m_Mould_clear_out (ok_Mould_clear_out T) (hr.mono (by decide)) T.b_Mould_clear_out .nil pass0))
      (pss_cons (ps_expr (pe_bm PySem.F.plainAttrs_list PySem.F.slot_list_append PySem.F.type_list_append mt_append (pe_fldK (K := K) rfl (pv 0) rfl) (pa_cons (pe_tupI (pa_cons (pv 1) (pa_cons (pv 3) (pa_cons (pv 4) pa_nil)))) pa_nil)))
      (pss_one (ps_ret (pe_tupI (pa_cons (pv 3) (pa_cons (pv 4) pa_nil)))))))))))), ?_⟩
    have hm0 := hm
    obtain ⟨⟨dx, rv, vv, h1, vj, rfl, h2⟩, ht, hl, hc, ci, gi, gt⟩ := hm
    refine ⟨_, rfl, Ad.p, dx, _, rfl, h1, rfl, _, rfl, Ad.p, Ad.t, Ad.l, dx, rv, .ref vj, x, nms, Ad.c, rfl, h1, ht, w1, fun hx => ?_⟩
    obtain ⟨⟨dc, dv, jv, k1, k2, jj, rfl, k3⟩, f, k4, k5⟩ := hc x hx
    refine ⟨_, rfl, _, rfl, Ad.c x, T.C_Mould, dc, _, _, rfl, k1, T.L_Mould, T.n_Mould_juice, rfl, .str x, jj, (st x).s, (st x).w, rfl, k3, w2 hx, fun ne H1 s1 => ?_⟩
    cases hcur : (st x).cur with
    | false =>
      refine ⟨_, rfl, Ad.c x, T.C_Mould, dc, _, _, rfl, s1 _ _ k1, T.L_Mould, T.n_Mould_cured, rfl, _, rfl, ?_⟩
      rw [hcur]
      refine iteT ?_
      refine ⟨_, rfl, by show 1 ≤ 1000; decide, fun b hb => ⟨b, (.str x), rfl, upd_same, fun d hd hne => ?_⟩⟩
      rw [upd_ne hne] at hd
      refine ⟨rfl, d, (wh "NotCured" (.str x)), upd_same, by rw [upd_ne hne, upd_same], hd, ?_⟩
      have kp := raised_keeps (o1 := exo b T.C_NotCured none) (o2 := exd d (wh "NotCured" (.str x))) (o3 := exo b T.C_NotCured (some d)) (o4 := .xd (wh "NotCured" (.str x))) hb hd
      exact w3 hx ne hcur d _ (s1.trans kp) upd_same
    | true =>
      refine ⟨_, rfl, Ad.c x, T.C_Mould, dc, _, _, rfl, s1 _ _ k1, T.L_Mould, T.n_Mould_cured, rfl, _, rfl, ?_⟩
      rw [hcur]
      refine iteF ?_
      obtain ⟨sa, wa, q1, q2, q3⟩ := k3
      refine ⟨_, rfl, Ad.c x, T.C_Mould, dc, _, _, rfl, s1 _ _ k1, T.L_Mould, T.n_Mould_juice, rfl, jj, _, 0, _, rfl, rfl, Same.tup s1 q1, at0, ?_⟩
      refine ⟨_, rfl, Ad.c x, dc, _, rfl, s1 _ _ k1, rfl, Ad.c x, Ad.g x, st x, rfl, (hm0.cell x hx).same s1, (ft hx).1, fun a H2 s2 hd => ?_⟩
      have s12 := s1.trans s2
      refine ⟨_, rfl, Ad.c x, dc, _, rfl, s12 _ _ k1, rfl, Ad.c x, Ad.g x, st x, rfl, (hm0.cell x hx).same s12, fun g2 H3 n3 hc3 o3 => ?_⟩
      have np : ¬ (Ad.p = Ad.c x) := fun z => hm0.cp x hx z.symm
      have m3 := (hm0.same s12).setg hx n3 o3 hc3
      have h1' := o3.ins np (s12 _ _ h1)
      obtain ⟨lvs, l1, l2, l3⟩ := m3.l
      change H3 Ad.l = some (.lst lvs) at l1
      refine ⟨_, rfl, Ad.p, T.C_Moulds, dx, _, _, rfl, h1', T.L_Moulds, T.n_Moulds__loaves, rfl, .inl ⟨rfl, _, SqL.of l1⟩, ?_⟩
      refine ⟨_, rfl, _, rfl, _, rfl, rfl, fun tp H4 s4 n4 h4 => ?_⟩
      have l4 := s4 _ _ l1
      have ll : lvs.length = lds.length := l3.1
      refine ⟨Ad.l, _, _, rfl, rfl, l4, small' (by omega), ?_⟩
      have t2 : TK K H2 H4 := o3.tk.trans (TK.same s4)
      have dl : Dtu K H4 5 (.ref tp) (loafD x (st x)) := DtuAll.tup (.cons (.str _ _ (ft hx).2) (.cons (((q2.same s12).tk t2).dtu 2) (.cons (hd.tk t2) .nil))) (SqT.of h4) (by show 3 ≤ 100000; decide)
      have m4 := (m3.same s4).loaf l4 (by omega) dl
      have nl : ¬ Ad.R nms tp → True := fun _ => trivial
      refine ⟨_, rfl, _, rfl, rfl, fun a5 H5 s5 n5 h5 => ?_⟩
      have o4 : Off K (Ad.R nms) H H5 := ((((Off.same s12).seq (o3.mono fun b z => .inr (.inr ⟨x, hx, .inl z⟩))).seq (.same s4)).seq (.put l4 .lst (.inr (.inl rfl)))).seq (.same s5)
      have n0 : H g2 = none := by
        cases e : H g2 with
        | none => rfl
        | some o => rw [s12 _ _ e] at n3; cases n3
      have t5 : TK K H2 H5 := t2.trans ((TK.upd l4 (fun _ y => by cases y) (fun _ _ y => by cases y)).trans (TK.same s5))
      exact w4 hx ne hcur a5 g2 H5 n0 (m4.same s5) (DtuAll.tup (.cons (((q2.same s12).tk t5).dtu 2) (.cons (hd.tk t5) .nil)) (SqT.of h5) (by show 2 ≤ 100000; decide)) o4

end
end KR
namespace KR
open PySem PySem.Spec PyProof.Rows L2
section
variable {P : Program} {w : World} {K : PySem.W.Frag} {mg : Str → Option Value} {base : Heap}
theorem ok_Moulds_bears (T : All K mg) : FnOk P w K mg base (L2.CX P w) 4 T.f_Moulds_bears T.fd_Moulds_bears ["self", "mould"] (sp_Moulds_bears K T.C_Moulds T.C_Mould T.C_NoMould) := by
  refine T.F_Moulds_bears.okX sc_Moulds_bears (fun vs H Q E h => ?_) (fun cdv A outer s H vs Q E hr h => ?_)
  · obtain ⟨A, nms, st, v1, v2, lds, x, rfl, _⟩ := h
    rfl
  · obtain ⟨Ad, nms, st, v1, v2, lds, x, rfl, hm, ft, w1, w2⟩ := h
    refine ⟨_, (pss_one (ps_ret (pe_meth0 (pe_meth (pv 0) T.L_Moulds T.m_Moulds__named (ok_Moulds__named T) hr T.b_Moulds__named .nil (passes_call (takes_of rfl rfl rfl rfl) (fun _ _ _ _ h => h)) (pa_cons (pv 1) pa_nil)) T.L_Mould T.m_Mould_strike_shares (ok_Mould_strike_shares T) hr T.b_Mould_strike_shares .nil pass0))), ?_⟩
    have hm0 := hm
    obtain ⟨⟨dx, rv, vv, h1, h2⟩, ht, hl, hc, ci, gi, gt⟩ := hm
    refine ⟨_, rfl, Ad.p, dx, _, rfl, h1, rfl, _, rfl, Ad.p, Ad.t, Ad.l, dx, rv, vv, x, nms, Ad.c, rfl, h1, ht, w1, fun hx => ?_⟩
    obtain ⟨⟨dc, dv, jv, k1, k2, k3⟩, f, k4, k5⟩ := hc x hx
    refine ⟨Ad.c x, dc, _, rfl, k1, rfl, ?_⟩
    exact ⟨Ad.c x, Ad.g x, st x, rfl, hm0.cell x hx, ft hx, fun a H' s1 hd => w2 hx a H' s1 hd⟩

end
end KR
namespace KR
open PySem PySem.Spec PyProof.Rows L2
section
variable {P : Program} {w : World} {K : PySem.W.Frag} {mg : Str → Option Value} {base : Heap}
def sp_Moulds_draw (K : PySem.W.Frag) (CO CM CE CS : Addr) : Sp := fun vs H Q E => ∃ (A : MAd) (nms : List Str) (st : Str → Mo) (v1 v2 : Rat) (lds : List PyData) (a : Addr) (t : Rat), vs = [.ref A.p, .ref a] ∧ MouldsAt K CO CM H A nms st v1 v2 lds ∧ FrQ K H a t ∧ Big v1 ∧ Big v2 ∧ Big t ∧ Big (1 - t) ∧
  (¬ ShOk t → Rf CS "NoShare" (.ref a) H E) ∧ (ShOk t → (v1 = 0 ∧ v2 = 0) → Rf CE "Empty" (.str "vat") H E) ∧ (ShOk t → ¬ (v1 = 0 ∧ v2 = 0) → ∀ x H', MouldsAt K CO CM H' A nms st (v1 * (1 - t)) (v2 * (1 - t)) lds → JuQ K H' x (v1 * t) (v2 * t) → Off K (A.R nms) H H' → Q (.ref x) H')
theorem ok_Moulds_draw_off (T : All K mg) : FnOk P w K mg base (L2.CX P w) 5 T.f_Moulds_draw_off T.fd_Moulds_draw_off ["self", "share"] (sp_Moulds_draw K T.C_Moulds T.C_Mould T.C_Empty T.C_NoShare) := by
  refine T.F_Moulds_draw_off.okX sc_Moulds_draw_off (fun vs H Q E h => ?_) (fun cdv A outer s H vs Q E hr h => ?_)
  · obtain ⟨A, nms, st, v1, v2, lds, a, t, rfl, _⟩ := h
    rfl
  · obtain ⟨Ad, nms, st, v1, v2, lds, a, t, rfl, hm, ha, b1, b2, b3, b4, w1, w2, w3⟩ := h
    refine ⟨_, (pss_cons (ps_expr (pe_call (ok_p_need_share T) (hr.mono (by decide)) (by rfl) T.d_p_need_share.mg T.d_p_need_share.fn.kp T.d_p_need_share.b .nil (passes_call (takes_of rfl rfl rfl rfl) (fun _ _ _ _ h => h)) (pa_cons (pv 1) pa_nil)))
      (pss_cons (ps_expr (pe_call (ok_p_need_some T) (hr.mono (by decide)) (by rfl) T.d_p_need_some.mg T.d_p_need_some.fn.kp T.d_p_need_some.b .nil (passes_call (takes_of rfl rfl rfl rfl) (fun _ _ _ _ h => h)) (pa_cons (pe_glob (v := .str "vat") rfl T.c_VAT ⟨_, rfl⟩) (pa_cons (pe_fldK (K := K) rfl (pv 0) rfl) pa_nil))))
      (pss_cons (ps_set (i := 2) sc_Moulds_draw_off.nd rfl (by first | exact Or.inl rfl | exact Or.inr rfl) (pe_call (ok_p_share_of T) (hr.mono (by decide)) (by rfl) T.d_p_share_of.mg T.d_p_share_of.fn.kp T.d_p_share_of.b .nil pass0 (pa_cons (pe_fldK (K := K) rfl (pv 0) rfl) (pa_cons (pv 1) pa_nil))))
      (pss_cons (ps_fld (pv 0) (pe_call (ok_p_rest_of T) hr (by rfl) T.d_p_rest_of.mg T.d_p_rest_of.fn.kp T.d_p_rest_of.b .nil pass0 (pa_cons (pe_fldK (K := K) rfl (pv 0) rfl) (pa_cons (pv 1) pa_nil))) rfl)
      (pss_one (ps_ret (pv 2))))))), ?_⟩
    have hm0 := hm
    obtain ⟨⟨dx, rv, vv, h1, vj, rfl, h2⟩, ht, hl, hc, ci, gi, gt⟩ := hm
    refine ⟨_, rfl, a, t, rfl, ha, w1, fun ok => ?_⟩
    refine ⟨_, rfl, Ad.p, T.C_Moulds, dx, _, _, rfl, h1, T.L_Moulds, T.n_Moulds__vat, rfl, .str "vat", vj, v1, v2, rfl, h2, w2 ok, fun ne H1 s1 => ?_⟩
    refine ⟨_, rfl, Ad.p, T.C_Moulds, dx, _, _, rfl, s1 _ _ h1, T.L_Moulds, T.n_Moulds__vat, rfl, _, rfl, vj, a, v1, v2, t, rfl, h2.same s1, ha.same s1, b1, b2, b3, fun z H2 s2 hz => ?_⟩
    have s12 := s1.trans s2
    refine ⟨_, rfl, Ad.p, T.C_Moulds, dx, _, _, rfl, s12 _ _ h1, T.L_Moulds, T.n_Moulds__vat, rfl, _, rfl, vj, a, v1, v2, t, rfl, h2.same s12, ha.same s12, b1, b2, b3, b4, fun z2 H3 s3 hz2 => ?_⟩
    have s13 := s12.trans s3
    refine ⟨_, rfl, Ad.p, T.C_Moulds, dx, _, rfl, s13 _ _ h1, T.L_Moulds, T.n_Moulds__vat, (by show 4 < 1000; decide), ?_⟩
    have m3 := (hm0.same s13).vat (s13 _ _ h1) ⟨z2, rfl, hz2⟩
    have o3 : Off K (Ad.R nms) H _ := (Off.same s13).seq (.put (s13 _ _ h1) .ins (.inl rfl) (o2 := .ins T.C_Moulds dx (mfs rv Ad.t (.ref z2) Ad.l)))
    exact ⟨_, rfl, w3 ok ne z _ m3 ((hz.same s3).tk (TK.upd (s13 _ _ h1) (fun _ y => by cases y) (fun _ _ y => by cases y))) o3⟩

end
end KR
namespace KR
open PySem PySem.Spec PyProof.Rows L2
section
variable {P : Program} {w : World} {K : PySem.W.Frag} {mg : Str → Option Value} {base : Heap}
def sp_Moulds_names (K : PySem.W.Frag) (CO CM : Addr) : Sp := fun vs H Q _ => ∃ (A : MAd) (nms : List Str) (st : Str → Mo) (v1 v2 : Rat) (lds : List PyData), vs = [.ref A.p] ∧ MouldsAt K CO CM H A nms st v1 v2 lds ∧ ∀ a H', Same H H' → H a = none → H' a = some (.lst (nms.map V.str)) → Q (.ref a) H'
theorem ok_Moulds_mould_names (T : All K mg) : FnOk P w K mg base CX0 1 T.f_Moulds_mould_names T.fd_Moulds_mould_names ["self"] (sp_Moulds_names K T.C_Moulds T.C_Mould) := by
  refine T.F_Moulds_mould_names.ok sc_Moulds_mould_names (fun vs H Q E h => ?_) (fun cdv A outer s H vs Q E hr h => ?_)
  · obtain ⟨A, nms, st, v1, v2, lds, rfl, _⟩ := h
    rfl
  · obtain ⟨Ad, nms, st, v1, v2, lds, rfl, hm, w⟩ := h
    refine ⟨_, (pss_one (ps_ret (pe_callTy (call_listD rfl) (by rfl) T.b_list (by decide +kernel) (pa_cons (pe_fldK (K := K) rfl (pv 0) rfl) pa_nil)))), ?_⟩
    obtain ⟨⟨dx, rv, vv, h1, vj, rfl, h2⟩, ht, _⟩ := hm
    refine ⟨_, rfl, Ad.p, T.C_Moulds, dx, _, _, rfl, h1, T.L_Moulds, T.n_Moulds__table, rfl, Ad.t, _, rfl, ht, fun p np => ?_⟩
    rw [byN_keys]
    exact w p _ (same_new np) np upd_same

end
end KR
namespace KR
open PySem PySem.Spec PyProof.Rows L2
section
variable {P : Program} {w : World} {K : PySem.W.Frag} {mg : Str → Option Value} {base : Heap}
def sp_Moulds_juice (K : PySem.W.Frag) (CO CM CN : Addr) : Sp := fun vs H Q E => ∃ (A : MAd) (nms : List Str) (st : Str → Mo) (v1 v2 : Rat) (lds : List PyData) (x : Str), vs = [.ref A.p, .str x] ∧ MouldsAt K CO CM H A nms st v1 v2 lds ∧ (x ∉ nms → Rf CN "NoMould" (.str x) H E) ∧ (x ∈ nms → ∀ a, JuQ K H a (st x).s (st x).w → Q (.ref a) H)
theorem ok_Moulds_juice_in (T : All K mg) : FnOk P w K mg base (L2.CX P w) 4 T.f_Moulds_juice_in T.fd_Moulds_juice_in ["self", "mould"] (sp_Moulds_juice K T.C_Moulds T.C_Mould T.C_NoMould) := by
  refine T.F_Moulds_juice_in.okX sc_Moulds_juice_in (fun vs H Q E h => ?_) (fun cdv A outer s H vs Q E hr h => ?_)
  · obtain ⟨A, nms, st, v1, v2, lds, x, rfl, _⟩ := h
    rfl
  · obtain ⟨Ad, nms, st, v1, v2, lds, x, rfl, hm, w1, w2⟩ := h
    refine ⟨_, (pss_one (ps_ret (pe_fldK (K := K) rfl (pe_meth (pv 0) T.L_Moulds T.m_Moulds__named (ok_Moulds__named T) hr T.b_Moulds__named .nil (passes_call (takes_of rfl rfl rfl rfl) (fun _ _ _ _ h => h)) (pa_cons (pv 1) pa_nil)) rfl))), ?_⟩
    obtain ⟨⟨dx, rv, vv, h1, h2⟩, ht, hl, hc, ci, gi, gt⟩ := hm
    refine ⟨_, rfl, Ad.p, dx, _, rfl, h1, rfl, _, rfl, Ad.p, Ad.t, Ad.l, dx, rv, vv, x, nms, Ad.c, rfl, h1, ht, w1, fun hx => ?_⟩
    obtain ⟨⟨dc, dv, jv, k1, k2, jj, rfl, k3⟩, f, k4, k5⟩ := hc x hx
    exact ⟨Ad.c x, T.C_Mould, dc, _, _, rfl, k1, T.L_Mould, T.n_Mould_juice, rfl, w2 hx jj k3⟩

end
end KR
namespace KR
open PySem PySem.Spec PyProof.Rows L2
section
variable {P : Program} {w : World} {K : PySem.W.Frag} {mg : Str → Option Value} {base : Heap}
def sp_Moulds_cured (K : PySem.W.Frag) (CO CM CN : Addr) : Sp := fun vs H Q E => ∃ (A : MAd) (nms : List Str) (st : Str → Mo) (v1 v2 : Rat) (lds : List PyData) (x : Str), vs = [.ref A.p, .str x] ∧ MouldsAt K CO CM H A nms st v1 v2 lds ∧ (x ∉ nms → Rf CN "NoMould" (.str x) H E) ∧ (x ∈ nms → Q (.bl (st x).cur) H)
theorem ok_Moulds_is_cured (T : All K mg) : FnOk P w K mg base (L2.CX P w) 4 T.f_Moulds_is_cured T.fd_Moulds_is_cured ["self", "mould"] (sp_Moulds_cured K T.C_Moulds T.C_Mould T.C_NoMould) := by
  refine T.F_Moulds_is_cured.okX sc_Moulds_is_cured (fun vs H Q E h => ?_) (fun cdv A outer s H vs Q E hr h => ?_)
  · obtain ⟨A, nms, st, v1, v2, lds, x, rfl, _⟩ := h
    rfl
  · obtain ⟨Ad, nms, st, v1, v2, lds, x, rfl, hm, w1, w2⟩ := h
    refine ⟨_, (pss_one (ps_ret (pe_fldK (K := K) rfl (pe_meth (pv 0) T.L_Moulds T.m_Moulds__named (ok_Moulds__named T) hr T.b_Moulds__named .nil (passes_call (takes_of rfl rfl rfl rfl) (fun _ _ _ _ h => h)) (pa_cons (pv 1) pa_nil)) rfl))), ?_⟩
    obtain ⟨⟨dx, rv, vv, h1, h2⟩, ht, hl, hc, ci, gi, gt⟩ := hm
    refine ⟨_, rfl, Ad.p, dx, _, rfl, h1, rfl, _, rfl, Ad.p, Ad.t, Ad.l, dx, rv, vv, x, nms, Ad.c, rfl, h1, ht, w1, fun hx => ?_⟩
    obtain ⟨⟨dc, dv, jv, k1, k2, k3⟩, f, k4, k5⟩ := hc x hx
    exact ⟨Ad.c x, T.C_Mould, dc, _, _, rfl, k1, T.L_Mould, T.n_Mould_cured, rfl, w2 hx⟩

end
end KR
namespace KR
open PySem PySem.Spec PyProof.Rows L2
section
variable {P : Program} {w : World} {K : PySem.W.Frag} {mg : Str → Option Value} {base : Heap}
def sp_Moulds_vat (K : PySem.W.Frag) (CO CM : Addr) : Sp := fun vs H Q _ => ∃ (A : MAd) (nms : List Str) (st : Str → Mo) (v1 v2 : Rat) (lds : List PyData), vs = [.ref A.p] ∧ MouldsAt K CO CM H A nms st v1 v2 lds ∧ ∀ a, JuQ K H a v1 v2 → Q (.ref a) H
theorem ok_Moulds_vat (T : All K mg) : FnOk P w K mg base CX0 1 T.f_Moulds_vat T.fd_Moulds_vat ["self"] (sp_Moulds_vat K T.C_Moulds T.C_Mould) := by
  refine T.F_Moulds_vat.ok sc_Moulds_vat (fun vs H Q E h => ?_) (fun cdv A outer s H vs Q E hr h => ?_)
  · obtain ⟨A, nms, st, v1, v2, lds, rfl, _⟩ := h
    rfl
  · obtain ⟨Ad, nms, st, v1, v2, lds, rfl, hm, w⟩ := h
    refine ⟨_, (pss_one (ps_ret (pe_fldK (K := K) rfl (pv 0) rfl))), ?_⟩
    obtain ⟨⟨dx, rv, vv, h1, vj, rfl, h2⟩, _⟩ := hm
    exact ⟨_, rfl, Ad.p, T.C_Moulds, dx, _, _, rfl, h1, T.L_Moulds, T.n_Moulds__vat, rfl, w vj h2⟩

end
end KR
namespace KR
open PySem PySem.Spec PyProof.Rows L2
section
variable {P : Program} {w : World} {K : PySem.W.Frag} {mg : Str → Option Value} {base : Heap}
def sp_Moulds_loaves (K : PySem.W.Frag) (CO CM : Addr) : Sp := fun vs H Q _ => ∃ (A : MAd) (nms : List Str) (st : Str → Mo) (v1 v2 : Rat) (lds : List PyData), vs = [.ref A.p] ∧ MouldsAt K CO CM H A nms st v1 v2 lds ∧ ∀ a H' lvs, Same H H' → H a = none → H' a = some (.lst lvs) → lvs.length ≤ 50000 → DtuAll K H' 5 lvs lds → Q (.ref a) H'
theorem ok_Moulds_loaves (T : All K mg) : FnOk P w K mg base CX0 1 T.f_Moulds_loaves T.fd_Moulds_loaves ["self"] (sp_Moulds_loaves K T.C_Moulds T.C_Mould) := by
  refine T.F_Moulds_loaves.ok sc_Moulds_loaves (fun vs H Q E h => ?_) (fun cdv A outer s H vs Q E hr h => ?_)
  · obtain ⟨A, nms, st, v1, v2, lds, rfl, _⟩ := h
    rfl
  · obtain ⟨Ad, nms, st, v1, v2, lds, rfl, hm, w⟩ := h
    refine ⟨_, (pss_one (ps_ret (pe_callTy (listI (K := K) rfl) (by rfl) T.b_list (by decide +kernel) (pa_cons (pe_fldK (K := K) rfl (pv 0) rfl) pa_nil)))), ?_⟩
    obtain ⟨⟨dx, rv, vv, h1, vj, rfl, h2⟩, ht, ⟨lvs, l1, l2, l3⟩, _⟩ := hm
    refine ⟨_, rfl, Ad.p, T.C_Moulds, dx, _, _, rfl, h1, T.L_Moulds, T.n_Moulds__loaves, rfl, ?_⟩
    refine ⟨Ad.l, lvs, rfl, .inl (SqL.of l1), ?_⟩
    exact fun l H' s n e => w l H' lvs s n e l2 (l3.tk (TK.same s))

end
end KR
namespace KR
open PySem PySem.Spec PyProof.Rows L2
section
variable {P : Program} {w : World} {K : PySem.W.Frag} {mg : Str → Option Value} {base : Heap}
theorem rm_mou {K : PySem.W.Frag} {H : Hp} {v : V} {z : RM} (h : RmAt K H v z) (o : RmOk z) : MouAt K H v z.1 (.tuple [.str z.1, .int z.2.1, dq z.2.2]) := by
  obtain ⟨t, dv, rfl, h1, m, rfl, h2⟩ := h
  have lo := rat_low z.2.2
  refine ⟨t, m, z.2.1, z.2.2.num, (z.2.2.den : Int), rfl, h1, h2, ⟨o.nm, o.r0, o.r1, num_nn.mpr o.d0, ?_, by have := o.dd; omega, lo.cop⟩, rfl⟩
  have k := (lt_cross z.2.2 1).mpr o.d1
  have e1 : (1 : Rat).num = 1 := rfl
  have e2 : ((1 : Rat).den : Int) = 1 := rfl
  rw [e1, e2, Int.mul_one, Int.one_mul] at k
  exact k
theorem cut1 {xs : List V} (h : 1 ≤ xs.length) : cutV xs (some 1) none = xs.drop 1 := by
  have k : cutV xs (some ((1 : Nat) : Int)) none = xs.drop 1 := by
    unfold cutV
    rw [HT.sIx_none, HT.sIx_nat, Nat.min_eq_left h]
    exact List.take_of_length_le (by rw [List.length_drop]; exact Nat.le_refl _)
  exact k
def sp_l_row (K : PySem.W.Frag) (CR : Addr) (Ps : List Addr) : Sp := fun vs H Q _ => ∃ (p : Addr) (n many : Nat) (gr : Bool), vs = [.ref p, .int many, .bl gr] ∧ 1 ≤ many ∧ many ≤ 40 ∧ BoxAt H p n ∧ n ≤ 999980000 ∧ Tbs Ps H ∧ ∀ (r dr k m : Addr) (xs : List V) (rs : List RM) (H' : Hp), H' r = some (.ins CR dr (rfs k m)) → Nw H r → SqT K H' m xs → xs.length = rs.length → (∀ (i : Nat) (v : V) (z : RM), xs[i]? = some v → rs[i]? = some z → RmAt K H' v z) → (rs.map (·.1)).Nodup → rs.length = many → (∀ z ∈ rs, RmOk z ∧ (gr = true → z.2.1 = 1000000)) →
  BoxAt H' p (n + 300) → Off K (· = p) H H' → Q (.ref r) H'
theorem ok_l_row (T : All K mg) (B : Tabs T base) : FnOk P w K mg base CX0 9 T.f_l_row T.fd_l_row ["_law_box_here", "_law_many", "_law_great"] (sp_l_row K T.C_Row T.Ps) := by
  refine T.d_l_row.fn.ok sc_l_row (fun vs H Q E h => ?_) (fun cdv A outer s H vs Q E hr h => ?_)
  · obtain ⟨p, n, many, gr, rfl, _⟩ := h
    rfl
  · obtain ⟨p, n, many, gr, rfl, m1, m40, hB, hn, hT, q⟩ := h
    refine ⟨_, (pss_cons (ps_par (i := 3) (j := 4) (by rfl) sc_l_row.nd rfl rfl (by decide) rfl rfl (pa_cons (pe_call (ok_l_names T) (hr.mono (by decide)) (by rfl) T.d_l_names.mg T.d_l_names.fn.kp T.d_l_names.b .nil pass0 (pa_cons (pv 0) (pa_cons (pe_op op_add (pv 1) pe_int) pa_nil))) (pa_cons (pe_lstI pa_nil) pa_nil)) (by rfl))
      (pss_cons (ps_for PassesOwn.never rfl (pi_listK (K := K) rfl (pe_slice (slL (K := K) rfl) (pv 3) (po_some pe_int) po_none)) (pg_name (i := 5) sc_l_row.nd rfl (by first | exact Or.inl rfl | exact Or.inr rfl)) (pss_cons (ps_set (i := 6) sc_l_row.nd rfl (by first | exact Or.inl rfl | exact Or.inr rfl) (pe_op op_add pe_int (pe_call (ok_l_take T) (hr.mono (by decide)) (by rfl) T.d_l_take.mg T.d_l_take.fn.kp T.d_l_take.b .nil pass0 (pa_cons (pv 0) (pa_cons pe_int pa_nil)))))
      (pss_cons (ps_J (ps_set (i := 7) sc_l_row.nd rfl (by first | exact Or.inl rfl | exact Or.inr rfl) (pe_ifExp (pt_not (pt_val (pv 2))) (pe_op op_add pe_int (pe_call (ok_l_take T) (hr.mono (by decide)) (by rfl) T.d_l_take.mg T.d_l_take.fn.kp T.d_l_take.b .nil pass0 (pa_cons (pv 0) (pa_cons (pe_ix (ixL (K := K) rfl) (pe_lstI (pa_cons pe_int (pa_cons pe_int (pa_cons (pe_op op_pow pe_int pe_int) (pa_cons (pe_op op_pow pe_int pe_int) pa_nil))))) (pe_call (ok_l_take T) (hr.mono (by decide)) (by rfl) T.d_l_take.mg T.d_l_take.fn.kp T.d_l_take.b .nil pass0 (pa_cons (pv 0) (pa_cons pe_int pa_nil))) (fun _ _ => rfl)) pa_nil)))) (pe_op op_pow pe_int pe_int))))
      (pss_one (ps_expr (pe_bm PySem.F.plainAttrs_list PySem.F.slot_list_append PySem.F.type_list_append mt_append (pv 4) (pa_cons (pe_tupI (pa_cons (pv 5) (pa_cons (pv 7) (pa_cons (pe_call (ok_l_low T) (hr.mono (by decide)) (by rfl) T.d_l_low.mg T.d_l_low.fn.kp T.d_l_low.b .nil pass0 (pa_cons (pe_call (ok_l_take T) (hr.mono (by decide)) (by rfl) T.d_l_take.mg T.d_l_take.fn.kp T.d_l_take.b .nil pass0 (pa_cons (pv 0) (pa_cons (pv 6) pa_nil))) (pa_cons (pv 6) pa_nil))) pa_nil)))) pa_nil)))))))
      (pss_one (ps_ret (pe_make T.M_Row (ok_Row_init T B) hr (by rfl) T.g_Row T.b_Row_init .nil pass0 (pa_cons (pe_lstI (pa_cons (pe_tupI (pa_cons (pe_ix (ixL (K := K) rfl) (pv 3) pe_int (fun _ _ => rfl)) (pa_cons pe_int (pa_cons pe_int (pa_cons (pe_tupI (pa_cons pe_int (pa_cons pe_int pa_nil))) pa_nil))))) pa_nil)) (pa_cons (pv 4) pa_nil))))))), ?_⟩
    refine ⟨_, rfl, _, rfl, _, _, rfl, rfl, p, n, many + 1, ?_, by omega, by omega, hB, by omega, fun l ts H1 hl lt nd nmt B1 F1 => ?_⟩
    · show [V.ref p, V.int ((many : Int) + 1)] = [V.ref p, V.int ((many + 1 : Nat) : Int)]
      rw [Int.natCast_add] <;> rfl
    refine ⟨rfl, fun fl H2 s2 n2 h2 => ⟨_, _, rfl, ?_⟩⟩
    have lp : l ≠ p := fun z => by
      obtain ⟨a, b, c, h1, _⟩ := B1
      rw [← z, hl] at h1
      cases ts with
      | nil => simp at lt
      | cons y r => cases h1
    have flp : fl ≠ p := B1.new n2
    have lfl : l ≠ fl := ne_of_none hl n2
    have fl0 : H fl = none := by
      obtain ⟨o, ho⟩ := B1.some
      exact F1.free ho n2
    have hl2 := s2 _ _ hl
    have o2 : Off K (· = p) H H2 := (Off.box hB F1).seq (.same s2)
    refine ⟨_, rfl, _, rfl, l, _, rfl, SqL.of hl2, fun sl H3 s3 n3 h3 => ?_⟩
    rw [cut1 (by rw [List.length_map, lt]; omega), ← List.map_drop] at h3
    have slp : sl ≠ p := (B1.same s2).new n3
    have slf : sl ≠ fl := (ne_of_none h2 n3).symm
    have ld : (ts.drop 1).length = many := by rw [List.length_drop, lt]; omega
    have nd1 : (ts.drop 1).Nodup := (List.drop_sublist _ _).nodup nd
    have B3 : BoxAt H3 p (n + 6) := (B1.same s2).same s3
    refine ⟨sl, rfl, ⟨_, SqL.of h3⟩, ?_⟩
    refine for_list (K := K) (a := sl) (xs := (ts.drop 1).map V.str) (fun i σ H' => ∃ (v5 v6 v7 : Option V) (ks : List V) (rs : List RM), σ = [some (.ref p), some (.int many), some (.bl gr), some (.ref l), some (.ref fl), v5, v6, v7] ∧ BoxAt H' p (n + 6 + 5 * i) ∧ Off K (fun a => a = p ∨ a = fl) H3 H' ∧ H' fl = some (.lst ks) ∧ ks.length = i ∧ rs.length = i ∧ rs.map (·.1) = (ts.drop 1).take i ∧ (∀ (j : Nat) (v : V) (z : RM), ks[j]? = some v → rs[j]? = some z → RmAt K H' v z) ∧ ∀ z ∈ rs, RmOk z ∧ (gr = true → z.2.1 = 1000000)) ⟨none, none, none, [], [], rfl, B3, .refl, s3 _ _ h2, rfl, rfl, rfl, fun j v z h => by simp at h, fun z hz => absurd hz List.not_mem_nil⟩ (fun i σ H' _ ⟨_, _, _, _, _, _, _, o, _⟩ => SqL.of (o.lst (fun z => z.elim slp slf) h3)) ?_ ?_
    · rintro i v σ H' hi ⟨v5, v6, v7, ks, rs, rfl, Bi, oi, hf, lk, lr, er, hr, ho⟩
      rw [List.getElem?_map] at hi
      obtain ⟨x, hx, rfl⟩ : ∃ x, (ts.drop 1)[i]? = some x ∧ v = V.str x := by
        cases e : (ts.drop 1)[i]? with
        | none => rw [e] at hi; cases hi
        | some k => rw [e] at hi; exact ⟨k, rfl, (Option.some.inj hi).symm⟩
      have ilt := (List.getElem?_eq_some_iff.mp hx).1
      have nmx : Nm x := nmt x (List.mem_of_mem_drop (List.mem_of_getElem? hx))
      refine ⟨_, rfl, p, 12, _, rfl, Bi, by omega, by decide, by decide, fun z H4 z0 z1 B4 F4 => ⟨_, _, rfl, rfl, ?_⟩⟩
      have o4 : Off K (· = p) H' H4 := .box Bi F4
      refine ⟨fun σ2 H5 => ∃ r : Int, σ2 = [some (.ref p), some (.int many), some (.bl gr), some (.ref l), some (.ref fl), some (.str x), some (.int (1 + z)), some (.int r)] ∧ 1 ≤ r ∧ r ≤ 1000000 ∧ (gr = true → r = 1000000) ∧ BoxAt H5 p (n + 6 + 5 * i + 3) ∧ Off K (· = p) H' H5, ?_, ?_⟩
      case' refine_2 =>
        have e6 : (10 : Int) ^ (6 : Int).toNat = 1000000 := by decide
        refine ⟨_, rfl, _, rfl, ?_⟩
        cases gr with
        | true =>
          refine iteF ?_
          exact ⟨_, _, rfl, rfl, ⟨by decide, by decide, by decide⟩, 1000000, by rw [← e6] <;> rfl, by decide, by decide, fun _ => rfl, B4.mono (by omega), o4⟩
        | false =>
          refine iteT ?_
          refine ⟨_, rfl, _, _, rfl, rfl, ⟨by decide, by decide, by decide⟩, _, _, rfl, rfl, ⟨by decide, by decide, by decide⟩, rfl, fun ll H5 s5 n5 h5 => ?_⟩
          have h5' : H5 ll = some (.lst [.int 30, .int 100, .int 10000, .int 1000000]) := h5
          have nll : ll ≠ p := B4.new n5
          refine ⟨_, rfl, p, 4, _, rfl, B4.same s5, by omega, by decide, by decide, fun iz H7 a0 a1 B7 F7 => ?_⟩
          obtain ⟨mm, em, c1, c2⟩ : ∃ m : Int, atI ([.int 30, .int 100, .int 10000, .int 1000000] : List V) iz = some (.int m) ∧ 1 ≤ m ∧ m ≤ 1000000 := by
            have w : iz = 0 ∨ iz = 1 ∨ iz = 2 ∨ iz = 3 := by omega
            rcases w with e | e | e | e <;> subst e <;> exact ⟨_, rfl, by decide, by decide⟩
          refine ⟨ll, _, iz, _, rfl, rfl, SqL.of (F7 _ _ nll h5'), em, p, mm, _, rfl, B7, by omega, by omega, by omega, fun rr H8 r0 r1 B8 F8 => ⟨_, _, rfl, rfl, ?_⟩⟩
          exact ⟨1 + rr, rfl, by omega, by omega, nofun, B8.mono (by omega), (o4.seq (.same s5)).seq ((Off.box (B4.same s5) F7).seq (.box B7 F8))⟩
      rintro σ2 H5 ⟨r, rfl, r1, r9, rg, B5, o5⟩
      have flp5 : H5 fl = some (.lst ks) := o5.lst flp hf
      refine ⟨_, rfl, .inl ⟨rfl, _, SqL.of flp5⟩, ?_⟩
      refine ⟨_, rfl, _, rfl, _, rfl, _, rfl, p, 1 + z, _, rfl, B5, by omega, by omega, by omega, fun y H6 y0 y1 B6 F6 => ?_⟩
      refine ⟨_, rfl, _, _, rfl, by omega, by omega, by omega, fun da H7 s7 n7 hd => ⟨rfl, fun tp H8 s8 n8 h8 => ?_⟩⟩
      have o8 : Off K (· = p) H' H8 := (o5.seq (.box B5 F6)).seq (.same (s7.trans s8))
      have f8 : H8 fl = some (.lst ks) := o8.lst flp hf
      refine ⟨fl, _, _, rfl, rfl, f8, small' (by omega), ?_⟩
      have tk8 : TK K H8 (upd H8 fl (.lst (ks ++ [.ref tp]))) := TK.upd f8 (fun _ y => by cases y) (fun _ _ y => by cases y)
      have new : RmAt K (upd H8 fl (.lst (ks ++ [.ref tp]))) (.ref tp) (x, r, rq y (1 + z)) := RmAt.tk ⟨tp, .ref da, rfl, SqT.of h8, da, rfl, hd.same s8⟩ tk8
      have okn : RmOk (x, r, rq y (1 + z)) := ⟨nmx, r1, r9, rq_nn y0 (by omega), rq_lt_one (by omega) (by omega), by have := den_le (t := y) (b := 1 + z) (by omega); show (rq y (1 + z)).den ≤ 12; omega⟩
      refine ⟨_, _, _, ks ++ [.ref tp], rs ++ [(x, r, rq y (1 + z))], rfl, ?_, ?_, upd_same, by rw [List.length_append, lk] <;> rfl, by rw [List.length_append, lr] <;> rfl, by rw [List.map_append, er, take_one hx] <;> rfl, fun j v w a b => ?_, fun w hw => ?_⟩
      · exact (((B6.same (s7.trans s8)).upd flp).mono (by omega))
      · exact (oi.seq (o8.mono fun _ z => .inl z)).trans (Off.put (R := (· = fl)) f8 .lst rfl) fun a z => .inl (.inr z)
      · by_cases c : j < ks.length
        · rw [List.getElem?_append_left c] at a
          rw [List.getElem?_append_left (by omega)] at b
          exact ((hr j v w a b).tk o8.tk).tk tk8
        · have hj : j = ks.length := by
            have := (List.getElem?_eq_some_iff.mp a).1
            rw [List.length_append, List.length_singleton] at this
            omega
          rw [List.getElem?_append_right (by omega), hj, Nat.sub_self] at a
          rw [List.getElem?_append_right (by omega), hj, lk, lr, Nat.sub_self] at b
          cases a
          cases b
          exact new
      · rcases List.mem_append.mp hw with h | h
        · exact ho w h
        · rw [List.mem_singleton.mp h]
          exact ⟨okn, rg⟩
    · rintro σ H' ⟨v5, v6, v7, ks, rs, rfl, Bi, oi, hf, lk, lr, er, hr', ho⟩
      rw [List.length_map, ld] at Bi lk lr er
      rw [List.take_of_length_le (by omega)] at er
      have oH : Off K (· = p) H H' := (o2.seq (.same s3)).trans oi (fun a z => z.elim .inl fun z => .inr (.of (by rw [z]; exact fl0)))
      have lneq : ¬ (l = p ∨ l = fl) := fun z => z.elim lp lfl
      have hl' := oi.lst lneq (s3 _ _ hl2)
      obtain ⟨y0, hy0⟩ : ∃ y0, ts[0]? = some y0 := ⟨_, List.getElem?_eq_getElem (by omega)⟩
      have nm0 := nmt y0 (List.mem_of_getElem? hy0)
      have a0 : atI (ts.map V.str) 0 = some (.str y0) := atI_nat (j := 0) (by rw [List.getElem?_map, hy0] <;> rfl)
      refine ⟨_, rfl, l, _, 0, _, rfl, rfl, SqL.of hl', a0, rfl, fun t1 H4 s4 n4 h4 => ⟨rfl, fun t2 H5 s5 n5 h5 => ⟨rfl, fun kl H6 s6 n6 h6 => ⟨_, rfl, fun x dx nx ndx ne => ?_⟩⟩⟩⟩
      have s46 := s4.trans (s5.trans s6)
      have sm : Same H6 (upd (upd H6 dx (.own x)) x (.ins T.C_Row dx [])) := make_same nx ndx
      have tkx : TK K H' (upd (upd H6 dx (.own x)) x (.ins T.C_Row dx [])) := TK.same (s46.trans sm)
      refine ⟨x, dx, kl, fl, ks, [.ref t2], rs.map (·.1), [y0], rs.map (fun z => .tuple [.str z.1, .int z.2.1, dq z.2.2]), [.tuple [.str y0, .int 100, .int 1, .tuple [.int 1, .int 2]]], rfl, upd_same, .inl (SqL.of (sm _ _ h6)), ⟨rfl, rfl, fun j v y d a b c => ?_⟩, .inl (SqL.of (sm _ _ (s46 _ _ hf))), ⟨by rw [List.length_map]; omega, by rw [List.length_map]; omega, fun j v y d a b c => ?_⟩, by omega, Nat.le_refl _, by show 1 ≤ 8; decide, ?_, ?_, fun k2 m2 H7 hx7 hk7 hm7 f7 => ⟨rfl, ?_⟩⟩
      · match j, a, b, c with
        | 0, a, b, c =>
          cases a
          cases b
          cases c
          exact ⟨t2, t1, 100, 1, 1, 2, rfl, SqT.of (sm _ _ (s6 _ _ h5)), SqT.of (sm _ _ ((s5.trans s6) _ _ h4)), ⟨nm0, by decide, by decide, by decide, by decide, by decide, by decide, by decide, by decide⟩, rfl⟩
        | j + 1, a, _, _ => simp at a
      · rw [List.getElem?_map] at b c
        cases e : rs[j]? with
        | none => rw [e] at b; cases b
        | some z =>
          rw [e] at b c
          cases b
          cases c
          exact rm_mou ((hr' j v z a e).tk tkx) (ho z (List.mem_of_getElem? e)).1
      · rw [er]
        show (y0 :: ts.drop 1).Nodup
        have e : y0 :: ts.drop 1 = ts := by
          cases ts with
          | nil => simp at hy0
          | cons u r => cases hy0; rfl
        rw [e]
        exact nd
      · exact (((Off.tbs (oH.seq (.same s46)) hT).same sm))
      · have s6H : Sm H' H7 := make_sm (nx := nx) (ndx := ndx) f7 |> fun s => (Sm.of s46).trans s
        have o7 : Off K (· = p) H H7 := oH.seq (.sm s6H)
        refine q x dx k2 m2 ks rs H7 hx7 (Nw.back (R := (· = p)) (K := K) (oH.seq (.same s46)) (fun z => ?_) (.of nx)) hm7 (by omega) (fun j v z a b => (hr' j v z a b).tk (.sm s6H)) (by rw [er]; exact nd1) (by omega) ho ((Bi.sm s6H).mono (by omega)) o7
        obtain ⟨o, hob⟩ := (Bi.same s46).some
        rw [z, hob] at nx
        cases nx

end
end KR
namespace KR
open PySem PySem.Spec PyProof.Rows L2
section
variable {P : Program} {w : World} {K : PySem.W.Frag} {mg : Str → Option Value} {base : Heap}
theorem ok_l_new (T : All K mg) : FnOk P w K mg base CX0 1 T.f_l_new T.fd_l_new ["_law_row_here"] (sp_l_new K T.C_Row) := by
  refine T.d_l_new.fn.ok sc_l_new (fun vs H Q E h => ?_) (fun cdv A outer s H vs Q E hr h => ?_)
  · obtain ⟨r, dr, k, m, xs, rs, rfl, _⟩ := h
    rfl
  · obtain ⟨r, dr, k, m, xs, rs, rfl, hrr, hm, len, hx, nd, l9, q⟩ := h
    refine ⟨_, (pss_cons (ps_set (i := 1) sc_l_new.nd rfl (by first | exact Or.inl rfl | exact Or.inr rfl) (pe_disp (pps_cons pe_str pe_dnewK (pps_cons pe_str pe_dnewK (pps_cons pe_str pe_dnewK (pps_cons pe_str pe_dnewK (pps_cons pe_str pe_dnewK (pps_cons pe_str (pe_tupI (pa_cons (pe_tupI (pa_cons pe_int (pa_cons pe_int pa_nil))) (pa_cons (pe_tupI (pa_cons pe_int (pa_cons pe_int pa_nil))) pa_nil))) (pps_cons pe_str (pe_lstI pa_nil) pps_nil))))))) rfl rfl (by simp) (by decide)))
      (pss_cons (ps_for PassesOwn.never rfl (pi_tupK (K := K) rfl (pe_fldK (K := K) rfl (pv 0) rfl)) (pg_tupK (K := K) rfl rfl (pgs_cons (pg_name (i := 2) sc_l_new.nd rfl (by first | exact Or.inl rfl | exact Or.inr rfl)) (pgs_cons (pg_name (i := 3) sc_l_new.nd rfl (by first | exact Or.inl rfl | exact Or.inr rfl)) (pgs_cons (pg_name (i := 4) sc_l_new.nd rfl (by first | exact Or.inl rfl | exact Or.inr rfl)) pgs_nil)))) (pss_cons (ps_asg (pe_tupI (pa_cons (pe_tupI (pa_cons (pv 3) (pa_cons pe_int pa_nil))) (pa_cons (pv 4) pa_nil))) (pg_tupK (K := K) rfl rfl (pgs_cons (pg_sub (pe_dget (hu_of hr) (pv 1) pe_str (fun _ _ => rfl)) (pv 2) (set_dict (hu_of hr))) (pgs_cons (pg_sub (pe_dget (hu_of hr) (pv 1) pe_str (fun _ _ => rfl)) (pv 2) (set_dict (hu_of hr))) pgs_nil))))
      (pss_one (ps_asg (pe_tupI (pa_cons pe_dnewK (pa_cons (pe_tupI (pa_cons pe_int (pa_cons pe_int pa_nil))) (pa_cons pe_bl pa_nil)))) (pg_tupK (K := K) rfl rfl (pgs_cons (pg_sub (pe_dget (hu_of hr) (pv 1) pe_str (fun _ _ => rfl)) (pv 2) (set_dict (hu_of hr))) (pgs_cons (pg_sub (pe_dget (hu_of hr) (pv 1) pe_str (fun _ _ => rfl)) (pv 2) (set_dict (hu_of hr))) (pgs_cons (pg_sub (pe_dget (hu_of hr) (pv 1) pe_str (fun _ _ => rfl)) (pv 2) (set_dict (hu_of hr))) pgs_nil))))))))
      (pss_one (ps_ret (pv 1))))), ?_⟩
    intro m0 nm0
    intro r0 nr0
    intro d0 nd0
    intro g0 ng0
    intro w0 nw0
    intro y0 ny0
    have hm1 : (upd H m0 (.dK [])) m0 = some (.dK []) := upd_same
    have ne1 : r0 ≠ m0 := (ne_of_none hm1 nr0).symm
    generalize eH1 : upd H m0 (.dK []) = H1 at *
    have hr2 : (upd H1 r0 (.dK [])) r0 = some (.dK []) := upd_same
    have hm2 := same_new (o := .dK []) nr0 _ _ hm1
    have s12 := same_new (o := .dK []) nr0
    generalize upd H1 r0 (.dK []) = H2 at *
    have s23 := same_new (o := .dK []) nd0
    have hd3 : (upd H2 d0 (.dK [])) d0 = some (.dK []) := upd_same
    have a1 : m0 ≠ d0 := ne_of_none hm2 nd0
    have a2 : r0 ≠ d0 := ne_of_none hr2 nd0
    generalize upd H2 d0 (.dK []) = H3 at *
    have s34 := same_new (o := .dK []) ng0
    have hg4 : (upd H3 g0 (.dK [])) g0 = some (.dK []) := upd_same
    have b1 : m0 ≠ g0 := ne_of_none (s23 _ _ hm2) ng0
    have b2 : r0 ≠ g0 := ne_of_none (s23 _ _ hr2) ng0
    have b3 : d0 ≠ g0 := ne_of_none hd3 ng0
    generalize upd H3 g0 (.dK []) = H4 at *
    have s45 := same_new (o := .dK []) nw0
    have hw5 : (upd H4 w0 (.dK [])) w0 = some (.dK []) := upd_same
    have c1 : m0 ≠ w0 := ne_of_none ((s23.trans s34) _ _ hm2) nw0
    have c2 : r0 ≠ w0 := ne_of_none ((s23.trans s34) _ _ hr2) nw0
    have c3 : d0 ≠ w0 := ne_of_none (s34 _ _ hd3) nw0
    have c4 : g0 ≠ w0 := ne_of_none hg4 nw0
    generalize upd H4 w0 (.dK []) = H5 at *
    have s56 := same_new (o := .dK []) ny0
    have hy6 : (upd H5 y0 (.dK [])) y0 = some (.dK []) := upd_same
    have s26 := s23.trans (s34.trans s45)
    have e1 : m0 ≠ y0 := ne_of_none (s26 _ _ hm2) ny0
    have e2 : r0 ≠ y0 := ne_of_none (s26 _ _ hr2) ny0
    have e3 : d0 ≠ y0 := ne_of_none ((s34.trans s45) _ _ hd3) ny0
    have e4 : g0 ≠ y0 := ne_of_none (s45 _ _ hg4) ny0
    have e5 : w0 ≠ y0 := ne_of_none hw5 ny0
    generalize upd H5 y0 (.dK []) = H6 at *
    refine ⟨rfl, fun z1 H7 s7 n7 h7 => ⟨rfl, fun z2 H8 s8 n8 h8 => ⟨rfl, fun vt H9 s9 n9 h9 => ⟨rfl, fun lv Ha sa na ha => ?_⟩⟩⟩⟩
    have s6a := s7.trans (s8.trans (s9.trans sa))
    have s0 : Same H H1 := eH1 ▸ same_new nm0
    have s0a : Same H Ha := s0.trans (s12.trans (s26.trans (s56.trans s6a)))
    have ma : Ha m0 = some (.dK []) := (s26.trans (s56.trans s6a)) _ _ hm2
    refine ⟨ma, [(kN "room", .ref r0), (kN "drip", .ref d0), (kN "sugar", .ref g0), (kN "water", .ref w0), (kN "dry", .ref y0), (kN "vat", .ref vt), (kN "loaves", .ref lv)], rfl, by show 7 ≤ 15; decide, ?_⟩
    let A0 : LAd := ⟨m0, r0, d0, g0, w0, y0, lv, fun _ => 0, false⟩
    have emk : mergeK [] [(kN "room", .ref r0), (kN "drip", .ref d0), (kN "sugar", .ref g0), (kN "water", .ref w0), (kN "dry", .ref y0), (kN "vat", .ref vt), (kN "loaves", .ref lv)] = mkv A0 (.ref vt) := rfl
    have oJ : Off K (fun _ => False) H (upd Ha m0 (.dK (mkv A0 (.ref vt)))) := (Off.same s0a).fresh nm0
    have kJ : (upd Ha m0 (.dK (mkv A0 (.ref vt)))) m0 = some (.dK (mkv A0 (.ref vt))) := upd_same
    have kr : (upd Ha m0 (.dK (mkv A0 (.ref vt)))) r0 = some (.dK []) := by rw [upd_ne ne1]; exact (s26.trans (s56.trans s6a)) _ _ hr2
    have kd : (upd Ha m0 (.dK (mkv A0 (.ref vt)))) d0 = some (.dK []) := by rw [upd_ne (Ne.symm a1)]; exact ((s34.trans s45).trans (s56.trans s6a)) _ _ hd3
    have kg : (upd Ha m0 (.dK (mkv A0 (.ref vt)))) g0 = some (.dK []) := by rw [upd_ne (Ne.symm b1)]; exact (s45.trans (s56.trans s6a)) _ _ hg4
    have kw : (upd Ha m0 (.dK (mkv A0 (.ref vt)))) w0 = some (.dK []) := by rw [upd_ne (Ne.symm c1)]; exact (s56.trans s6a) _ _ hw5
    have ky : (upd Ha m0 (.dK (mkv A0 (.ref vt)))) y0 = some (.dK []) := by rw [upd_ne (Ne.symm e1)]; exact s6a _ _ hy6
    have klv : (upd Ha m0 (.dK (mkv A0 (.ref vt)))) lv = some (.lst []) := by rw [upd_ne (ne_of ha ma (by intro z; cases z))]; exact ha
    have tkJ : TK K Ha (upd Ha m0 (.dK (mkv A0 (.ref vt)))) := TK.upd ma (fun _ y => by cases y) (fun _ _ y => by cases y)
    have jv : JuQ K (upd Ha m0 (.dK (mkv A0 (.ref vt)))) vt 0 0 := JuQ.tk (((JuQ.new h9 ((FrQ.int (z := 0) h7).same (s8.trans s9)) ((FrQ.int (z := 0) h8).same s9)) : JuQ K H9 vt ((0 : Int) : Rat) ((0 : Int) : Rat)).same sa) tkJ
    rw [emk]
    have nwof : ∀ {b : Addr} {Hx : Hp}, Same H Hx → Hx b = none → Nw H b := fun s n => Nw.backS s (.of n)
    have law0 : LawAt K (upd Ha m0 (.dK (mkv A0 (.ref vt)))) A0 [] (fun _ => mo0 0 0) 0 0 [] := ⟨⟨_, kJ, _, rfl, jv⟩, ⟨fun _ => .non, .inl kr, fun _ h => absurd h List.not_mem_nil⟩, ⟨fun _ => .non, .inl kd, fun _ h => absurd h List.not_mem_nil⟩, kg, fun _ h => absurd h List.not_mem_nil, ⟨fun _ => .non, kw, fun _ h => absurd h List.not_mem_nil⟩, ky, ⟨[], klv, Nat.zero_le _, .nil⟩, fun _ h => absurd h List.not_mem_nil, by
      show [m0, r0, d0, g0, w0, y0].Nodup
      simp only [List.nodup_cons, List.mem_cons, List.not_mem_nil, or_false, not_or, List.nodup_nil, and_true, not_false_iff]
      exact ⟨⟨ne1.symm, a1, b1, c1, e1⟩, ⟨a2, b2, c2, e2⟩, ⟨b3, c3, e3⟩, ⟨c4, e4⟩, e5⟩, fun _ h => absurd h List.not_mem_nil, Nat.zero_le _⟩
    have nwA : Nw H m0 ∧ Nw H r0 ∧ Nw H d0 ∧ Nw H g0 ∧ Nw H w0 ∧ Nw H y0 ∧ Nw H lv := ⟨.of nm0, nwof s0 nr0, nwof (s0.trans s12) nd0, nwof (s0.trans (s12.trans s23)) ng0, nwof (s0.trans (s12.trans (s23.trans s34))) nw0, nwof (s0.trans (s12.trans s26)) ny0, nwof (s0.trans (s12.trans (s26.trans (s56.trans (s7.trans (s8.trans s9)))))) na⟩
    change (tSeq _ _) _ _ (upd Ha m0 (.dK (mkv A0 (.ref vt))))
    generalize upd Ha m0 (.dK (mkv A0 (.ref vt))) = J at oJ kJ kr kd kg kw ky klv tkJ jv law0
    refine ⟨_, rfl, r, T.C_Row, dr, _, _, rfl, oJ.ins id hrr, T.L_Row, T.n_Row_moulds, rfl, m, rfl, ⟨_, oJ.tk _ _ hm⟩, ?_⟩
    refine for_tup (K := K) (a := m) (xs := xs) (fun i σ H' => ∃ (sx : Str → Addr) (st : Str → Mo) (v2 v3 v4 : Option V) (fr fd : Str → V), σ = [some (.ref r), some (.ref m0), v2, v3, v4] ∧ LawAt K H' { A0 with s := sx } ((rs.map (·.1)).take i) st 0 0 [] ∧ H' r0 = some (.dK (byK kN ((rs.map (·.1)).take i) fr)) ∧ (∀ y ∈ (rs.map (·.1)).take i, FQ K H' (fr y) ((st y).room : Rat)) ∧ H' d0 = some (.dK (byK kN ((rs.map (·.1)).take i) fd)) ∧ (∀ y ∈ (rs.map (·.1)).take i, FQ K H' (fd y) (st y).drip) ∧ StOf st (rs.take i) ∧ Off K (fun _ => False) H H' ∧ ∀ y ∈ (rs.map (·.1)).take i, Nw H (sx y))
      ⟨fun _ => 0, _, none, none, none, fun _ => .non, fun _ => .non, rfl, law0, kr, fun _ h => absurd h List.not_mem_nil, kd, fun _ h => absurd h List.not_mem_nil, fun _ h => absurd h List.not_mem_nil, oJ, fun _ h => absurd h List.not_mem_nil⟩ (fun i σ H' _ ⟨_, _, _, _, _, _, _, _, _, _, _, _, _, _, o, _⟩ => o.tk _ _ hm) ?_ ?_
    · rintro i v σ H' hi ⟨sx, st, v2, v3, v4, fr, fd, rfl, law, hr, hrq, hd, hdq, so, oi, nwx⟩
      have hi2 := (List.getElem?_eq_some_iff.mp hi).1
      obtain ⟨z, hz⟩ : ∃ z, rs[i]? = some z := ⟨_, List.getElem?_eq_getElem (by omega)⟩
      obtain ⟨t, dv, rfl, ht, hdv⟩ := (hx i v z hi hz).tk oi.tk
      have hnz : (rs.map (·.1))[i]? = some z.1 := by rw [List.getElem?_map, hz] <;> rfl
      have notin : z.1 ∉ (rs.map (·.1)).take i := fun h => by
        have nd2 : ((rs.map (·.1)).take (i + 1)).Nodup := (List.take_sublist _ _).nodup nd
        rw [take_one hnz, List.nodup_append] at nd2
        exact nd2.2.2 _ h _ (List.mem_singleton.mpr rfl) rfl
      have lnt : ((rs.map (·.1)).take i).length < 50000 := by rw [List.length_take]; omega
      have addk : addK ((rs.map (·.1)).take i) z.1 = (rs.map (·.1)).take i ++ [z.1] := if_neg notin
      have law' := law
      obtain ⟨⟨vv, k1, k2⟩, _, _, k7, _, ⟨fw, k9, k10⟩, k11, _⟩ := law'
      change H' m0 = some (.dK (mkv A0 vv)) at k1
      change H' g0 = _ at k7
      change H' w0 = _ at k9
      change H' y0 = _ at k11
      refine ⟨t, _, rfl, ht, rfl, _, _, rfl, _, _, rfl, _, _, rfl, rfl, ?_⟩
      refine ⟨_, rfl, rfl, fun t1 Hb sb nb hb => ⟨_, rfl, rfl, fun t2 Hc sc nc hc => ?_⟩⟩
      have sbc := sb.trans sc
      refine ⟨t2, _, rfl, SqT.of hc, rfl, _, _, rfl, _, rfl, m0, _, rfl, g_room (A := A0) (sbc _ _ k1), _, rfl, r0, _, rfl, dput_n (sbc _ _ hr) (by omega), _, _, rfl, _, rfl, m0, _, rfl, g_drip (A := A0) (by rw [upd_ne ne1.symm]; exact sbc _ _ k1), _, rfl, d0, _, rfl, dput_n (by rw [upd_ne (Ne.symm a2)]; exact sbc _ _ hd) (by omega), rfl, ?_⟩
      rw [addk]
      have o1 : Off K (fun a => a = r0 ∨ a = d0) Hc (upd (upd Hc r0 (.dK (byK kN ((rs.map (·.1)).take i ++ [z.1]) (set1 fr z.1 (.ref t1))))) d0 (.dK (byK kN ((rs.map (·.1)).take i ++ [z.1]) (set1 fd z.1 dv)))) := (Off.refl.write (.inl rfl) (sbc _ _ hr) .dK).write (.inr rfl) (sbc _ _ hd) .dK
      have kBr : (upd (upd Hc r0 (.dK (byK kN ((rs.map (·.1)).take i ++ [z.1]) (set1 fr z.1 (.ref t1))))) d0 (.dK (byK kN ((rs.map (·.1)).take i ++ [z.1]) (set1 fd z.1 dv)))) r0 = some (.dK (byK kN ((rs.map (·.1)).take i ++ [z.1]) (set1 fr z.1 (.ref t1)))) := by rw [upd_ne a2, upd_same]
      have kBd : (upd (upd Hc r0 (.dK (byK kN ((rs.map (·.1)).take i ++ [z.1]) (set1 fr z.1 (.ref t1))))) d0 (.dK (byK kN ((rs.map (·.1)).take i ++ [z.1]) (set1 fd z.1 dv)))) d0 = some (.dK (byK kN ((rs.map (·.1)).take i ++ [z.1]) (set1 fd z.1 dv))) := upd_same
      have bkB : ∀ b, (upd (upd Hc r0 (.dK (byK kN ((rs.map (·.1)).take i ++ [z.1]) (set1 fr z.1 (.ref t1))))) d0 (.dK (byK kN ((rs.map (·.1)).take i ++ [z.1]) (set1 fd z.1 dv)))) b = none → Hc b = none := fun b e => by
        by_cases c : b = d0
        · rw [c, upd_same] at e; cases e
        · rw [upd_ne c] at e
          by_cases c' : b = r0
          · rw [c', upd_same] at e; cases e
          · rw [upd_ne c'] at e; exact e
      generalize (upd (upd Hc r0 (.dK (byK kN ((rs.map (·.1)).take i ++ [z.1]) (set1 fr z.1 (.ref t1))))) d0 (.dK (byK kN ((rs.map (·.1)).take i ++ [z.1]) (set1 fd z.1 dv)))) = HB at o1 kBr kBd bkB ⊢
      have nrd : ∀ {b : Addr}, r0 ≠ b → d0 ≠ b → ¬ (b = r0 ∨ b = d0) := fun h1 h2 z => z.elim (fun z => h1 z.symm) fun z => h2 z.symm
      have kB1 := o1.dK (nrd ne1 (Ne.symm a1)) (sbc _ _ k1)
      have kB7 := o1.dK (nrd b2 b3) (sbc _ _ k7)
      have kB9 := o1.dK (nrd c2 c3) (sbc _ _ k9)
      have kB11 := o1.dK (nrd e2 e3) (sbc _ _ k11)
      refine fun g hg => ⟨rfl, fun t3 Hd sd nd' hd' => ⟨rfl, fun t4 He se ne' he' => ?_⟩⟩
      have sBE : Same HB He := (same_new hg).trans (sd.trans se)
      have hgE : He g = some (.dK []) := (sd.trans se) _ _ upd_same
      have ng' : H' g = none := by
        have e := bkB g hg
        cases c : H' g with
        | none => rfl
        | some o => rw [sbc _ _ c] at e; cases e
      refine ⟨t4, _, rfl, SqT.of he', rfl, _, _, rfl, _, rfl, m0, _, rfl, g_sugar (A := A0) (sBE _ _ kB1), _, rfl, g0, _, rfl, dput_n (sBE _ _ kB7) (by omega), _, _, rfl, _, rfl, m0, _, rfl, g_water (A := A0) (by rw [upd_ne b1]; exact sBE _ _ kB1), _, rfl, w0, _, rfl, dput_n (by rw [upd_ne c4.symm]; exact sBE _ _ kB9) (by omega), _, _, rfl, _, rfl, m0, _, rfl, g_dry (A := A0) (by rw [upd_ne c1, upd_ne b1]; exact sBE _ _ kB1), _, rfl, y0, _, rfl, dput_n (by rw [upd_ne e5.symm, upd_ne e4.symm]; exact sBE _ _ kB11) (by omega), rfl, ?_⟩
      rw [addk]
      have o3 : Off K (fun a => a = g0 ∨ a = w0 ∨ a = y0) He (upd (upd (upd He g0 (.dK (byK kN ((rs.map (·.1)).take i ++ [z.1]) (set1 (fun x => .ref (sx x)) z.1 (.ref g))))) w0 (.dK (byK kN ((rs.map (·.1)).take i ++ [z.1]) (set1 fw z.1 (.ref t3))))) y0 (.dK (byK kN ((rs.map (·.1)).take i ++ [z.1]) (set1 (fun x => .bl (st x).cur) z.1 (.bl false))))) := ((Off.refl.write (.inl rfl) (sBE _ _ kB7) .dK).write (.inr (.inl rfl)) (sBE _ _ kB9) .dK).write (.inr (.inr rfl)) (sBE _ _ kB11) .dK
      have kFg : (upd (upd (upd He g0 (.dK (byK kN ((rs.map (·.1)).take i ++ [z.1]) (set1 (fun x => .ref (sx x)) z.1 (.ref g))))) w0 (.dK (byK kN ((rs.map (·.1)).take i ++ [z.1]) (set1 fw z.1 (.ref t3))))) y0 (.dK (byK kN ((rs.map (·.1)).take i ++ [z.1]) (set1 (fun x => .bl (st x).cur) z.1 (.bl false))))) g0 = some (.dK (byK kN ((rs.map (·.1)).take i ++ [z.1]) (set1 (fun x => .ref (sx x)) z.1 (.ref g)))) := by rw [upd_ne e4, upd_ne c4, upd_same]
      have kFw : (upd (upd (upd He g0 (.dK (byK kN ((rs.map (·.1)).take i ++ [z.1]) (set1 (fun x => .ref (sx x)) z.1 (.ref g))))) w0 (.dK (byK kN ((rs.map (·.1)).take i ++ [z.1]) (set1 fw z.1 (.ref t3))))) y0 (.dK (byK kN ((rs.map (·.1)).take i ++ [z.1]) (set1 (fun x => .bl (st x).cur) z.1 (.bl false))))) w0 = some (.dK (byK kN ((rs.map (·.1)).take i ++ [z.1]) (set1 fw z.1 (.ref t3)))) := by rw [upd_ne e5, upd_same]
      have kFy : (upd (upd (upd He g0 (.dK (byK kN ((rs.map (·.1)).take i ++ [z.1]) (set1 (fun x => .ref (sx x)) z.1 (.ref g))))) w0 (.dK (byK kN ((rs.map (·.1)).take i ++ [z.1]) (set1 fw z.1 (.ref t3))))) y0 (.dK (byK kN ((rs.map (·.1)).take i ++ [z.1]) (set1 (fun x => .bl (st x).cur) z.1 (.bl false))))) y0 = some (.dK (byK kN ((rs.map (·.1)).take i ++ [z.1]) (set1 (fun x => .bl (st x).cur) z.1 (.bl false)))) := upd_same
      generalize (upd (upd (upd He g0 (.dK (byK kN ((rs.map (·.1)).take i ++ [z.1]) (set1 (fun x => .ref (sx x)) z.1 (.ref g))))) w0 (.dK (byK kN ((rs.map (·.1)).take i ++ [z.1]) (set1 fw z.1 (.ref t3))))) y0 (.dK (byK kN ((rs.map (·.1)).take i ++ [z.1]) (set1 (fun x => .bl (st x).cur) z.1 (.bl false))))) = HF at o3 kFg kFw kFy ⊢
      have nr3 : ∀ {b : Addr}, b ≠ g0 → b ≠ w0 → b ≠ y0 → ¬ (b = g0 ∨ b = w0 ∨ b = y0) := fun h1 h2 h3 z => by
        rcases z with z | z | z
        · exact h1 z
        · exact h2 z
        · exact h3 z
      have kFr := o3.dK (nr3 b2 c2 e2) (sBE _ _ kBr)
      have kFd := o3.dK (nr3 b3 c3 e3) (sBE _ _ kBd)
      have gne : ∀ {b : Addr} {kvs : List (Key × V)}, H' b = some (.dK kvs) → g ≠ b := fun k y => by rw [← y, ng'] at k; cases k
      have kFgg := o3.dK (nr3 (gne k7) (gne k9) (gne k11)) hgE
      have oF : Off K (fun a => a = r0 ∨ a = d0 ∨ a = g0 ∨ a = w0 ∨ a = y0) H' HF :=
        (((Off.same sbc).seq (o1.mono fun _ z => z.elim .inl fun z => .inr (.inl z))).seq (.same sBE)).seq (o3.mono fun _ z => by
          rcases z with z | z | z
          · exact .inr (.inr (.inl z))
          · exact .inr (.inr (.inr (.inl z)))
          · exact .inr (.inr (.inr (.inr z))))
      have tkCF : TK K Hc HF := (o1.tk.trans (TK.same sBE)).trans o3.tk
      have q1 : FQ K HF (.ref t1) (z.2.1 : Rat) := ⟨t1, rfl, ((FrQ.int hb).same sc).tk tkCF⟩
      have q2 : FQ K HF dv z.2.2 := hdv.tk oF.tk
      have q3 : FQ K HF (.ref t3) 0 := ⟨t3, rfl, (((FrQ.int (z := 0) hd' : FrQ K Hd t3 ((0 : Int) : Rat))).same se).tk o3.tk⟩
      have lawF := law.grow (x := z.1) (g := g) (r0 := z.2.1) (d := z.2.2) notin lnt hr hrq hd hdq k10 ng' oF kFr q1 kFd q2 kFg kFgg kFw q3 kFy
      have mem : ∀ y, y ∈ (rs.map (·.1)).take (i + 1) → y = z.1 ∨ (y ≠ z.1 ∧ y ∈ (rs.map (·.1)).take i) := fun y hy => by
        rw [take_one hnz] at hy
        rcases List.mem_append.mp hy with h | h
        · exact .inr ⟨fun e => notin (e ▸ h), h⟩
        · exact .inl (List.mem_singleton.mp h)
      obtain ⟨n1, n2, n3, n4, n5, n6, n7⟩ := nwA
      have oHF : Off K (fun _ => False) H HF := oi.trans oF fun a h => by
        rcases h with h | h | h | h | h
        · exact .inr (h ▸ n2)
        · exact .inr (h ▸ n3)
        · exact .inr (h ▸ n4)
        · exact .inr (h ▸ n5)
        · exact .inr (h ▸ n6)
      refine ⟨set1 sx z.1 g, set1 st z.1 (mo0 z.2.1 z.2.2), _, _, _, set1 fr z.1 (.ref t1), set1 fd z.1 dv, rfl, ?_, ?_, fun y hy => ?_, ?_, fun y hy => ?_, fun y hy => ?_, oHF, fun y hy => ?_⟩
      · rw [take_one hnz]
        exact lawF
      · rw [take_one hnz]
        exact kFr
      · rcases mem y hy with e | ⟨e, h⟩
        · rw [e, set1_same, set1_same]; exact q1
        · rw [set1_ne e, set1_ne e]; exact (hrq y h).tk oF.tk
      · rw [take_one hnz]
        exact kFd
      · rcases mem y hy with e | ⟨e, h⟩
        · rw [e, set1_same, set1_same]; exact q2
        · rw [set1_ne e, set1_ne e]; exact (hdq y h).tk oF.tk
      · rw [take_one hz] at hy
        rcases List.mem_append.mp hy with h | h
        · have hn : y.1 ≠ z.1 := fun e => notin (by rw [← e, ← List.map_take]; exact List.mem_map.mpr ⟨y, h, rfl⟩)
          rw [set1_ne hn]
          exact so y h
        · rw [List.mem_singleton.mp h, set1_same]
      · rcases mem y hy with e | ⟨e, h⟩
        · rw [e, set1_same]
          exact Nw.back oi id (.of ng')
        · rw [set1_ne e]; exact nwx y h
    · rintro σ H' ⟨sx, st, v2, v3, v4, fr, fd, rfl, law, hr, hrq, hd, hdq, so, oi, nwx⟩
      rw [len, List.take_length] at so
      rw [show (rs.map (·.1)).take xs.length = rs.map (·.1) from List.take_of_length_le (by rw [List.length_map, len]; exact Nat.le_refl _)] at law nwx
      obtain ⟨n1, n2, n3, n4, n5, n6, n7⟩ := nwA
      refine ⟨_, rfl, q { A0 with s := sx } st H' law ⟨_, hr⟩ so oi (fun a h => ?_) n2 n3⟩
      rcases h with h | h | h | h | h | ⟨y, hy, h⟩
      · exact h ▸ n1
      · exact h ▸ n4
      · exact h ▸ n5
      · exact h ▸ n6
      · exact h ▸ n7
      · exact h ▸ nwx y hy

end
end KR
namespace KR
open PySem PySem.Spec PyProof.Rows L2
section
variable {P : Program} {w : World} {K : PySem.W.Frag} {mg : Str → Option Value} {base : Heap}
theorem zsum_scale {q : Int → Rat} {c : Rat} : ∀ ks : List Int, zsum (ks.map fun k => q k * c) = zsum (ks.map q) * c
  | [] => (Rat.zero_mul c).symm
  | k :: r => by
    show q k * c + zsum (r.map fun k => q k * c) = (q k + zsum (r.map q)) * c
    rw [zsum_scale r, Rat.add_mul]
theorem ok_l_inside (T : All K mg) : FnOk P w K mg base CX0 3 T.f_l_inside T.fd_l_inside ["_law_m", "_law_mould"] (sp_l_inside K) := by
  refine T.d_l_inside.fn.ok sc_l_inside (fun vs H Q E h => ?_) (fun cdv A outer s H vs Q E hr h => ?_)
  · obtain ⟨A, nms, st, v1, v2, lds, x, rfl, _⟩ := h
    rfl
  · obtain ⟨Ad, nms, st, v1, v2, lds, x, rfl, hl, hx, add, big, q⟩ := h
    refine ⟨_, (pss_cons (ps_set (i := 2) sc_l_inside.nd rfl (by first | exact Or.inl rfl | exact Or.inr rfl) (pe_tupI (pa_cons pe_int (pa_cons pe_int pa_nil))))
      (pss_cons (ps_lock (ps_for PassesOwn.never rfl (pi_keys (pe_dget (hu_of hr) (pe_dget (hu_of hr) (pv 0) pe_str (fun _ _ => rfl)) (pv 1) (fun _ _ => rfl))) (pg_name (i := 3) sc_l_inside.nd rfl (by first | exact Or.inl rfl | exact Or.inr rfl)) (pss_one (ps_set (i := 2) sc_l_inside.nd rfl (by first | exact Or.inl rfl | exact Or.inr rfl) (pe_call (ok_l_plus T) hr (by rfl) T.d_l_plus.mg T.d_l_plus.fn.kp T.d_l_plus.b .nil pass0 (pa_cons (pv 2) (pa_cons (pe_dget (hu_of hr) (pe_dget (hu_of hr) (pe_dget (hu_of hr) (pv 0) pe_str (fun _ _ => rfl)) (pv 1) (fun _ _ => rfl)) (pv 3) (fun _ _ => rfl)) pa_nil)))))))
      (pss_one (ps_ret (pe_tupI (pa_cons (pv 2) (pa_cons (pe_dget (hu_of hr) (pe_dget (hu_of hr) (pv 0) pe_str (fun _ _ => rfl)) (pv 1) (fun _ _ => rfl)) pa_nil))))))), ?_⟩
    obtain ⟨⟨vv, h1, h2⟩, hrm, hdp, hsg, hsx, ⟨wf, hw1, hw2⟩, hdr, hlv, si, nd, sn, ln⟩ := hl
    obtain ⟨f, f1, f2⟩ := hsx x hx
    have nx := sn x hx
    have n1 : Ad.m ≠ Ad.s x := fun z => nx (by rw [← z]; simp)
    have n2 : Ad.sg ≠ Ad.s x := fun z => nx (by rw [← z]; simp)
    refine ⟨rfl, fun z0 H1 s1 nz hz0 => ?_⟩
    refine ⟨Ad.s x, _, s1 _ _ f1, trivial, fun od => ?_⟩
    generalize eL : upd H1 (Ad.s x) (.frz od (.dK (byK kI (st x).ks f))) = L
    have tkL : TK K H L := by rw [← eL]; exact (TK.same s1).trans (tk_lock (s1 _ _ f1))
    have mL : L Ad.m = some (.dK (mkv Ad vv)) := by rw [← eL, upd_ne n1]; exact s1 _ _ h1
    have sL : L Ad.sg = some (.dK (byK kN nms fun x => .ref (Ad.s x))) := by rw [← eL, upd_ne n2]; exact s1 _ _ hsg
    have gL : L (Ad.s x) = some (.frz od (.dK (byK kI (st x).ks f))) := by rw [← eL, upd_same]
    have zL : FrQ K L z0 0 := by
      have : FrQ K H1 z0 0 := FrQ.int (z := 0) hz0
      rw [← eL]
      exact this.tk (tk_lock (s1 _ _ f1))
    refine ⟨_, rfl, Ad.m, _, rfl, g_sugar mL, _, rfl, Ad.sg, _, rfl, dget_n (.inl sL) hx, Ad.s x, od, rfl, .inl ⟨_, gL, ?_⟩⟩
    refine for_keys (fun i σ H' => ∃ (a : Addr) (v3 : Option V), σ = [some (.ref Ad.m), some (.str x), some (.ref a), v3] ∧ FrQ K H' a (zsum (((st x).ks.map fun k => (st x).q k * (st x).left).take i)) ∧ Same L H') ⟨z0, none, rfl, zL, Same.refl _⟩ (fun i σ H' _ ⟨_, _, _, _, sm⟩ => sm _ _ gL) ?_ ?_
    · rintro i k v σ H' hi ⟨a, v3, rfl, ha, sm⟩
      obtain ⟨k', hk, e⟩ := byK_get hi
      cases e
      have hkm := List.mem_of_getElem? hk
      obtain ⟨b, e, hb⟩ := f2 k' hkm
      have hi2 := (List.getElem?_eq_some_iff.mp hk).1
      refine ⟨_, rfl, _, rfl, Ad.m, _, rfl, g_sugar (sm _ _ mL), _, rfl, Ad.sg, _, rfl, dget_n (.inl (sm _ _ sL)) hx, _, rfl, Ad.s x, _, rfl, dget_i (.inr ⟨od, sm _ _ gL⟩) hkm, a, b, _, _, by rw [e] <;> rfl, ha, (hb.tk tkL).same sm, add i (by rw [List.length_map]; omega), big k' hkm, trivial, fun z H2 s2 n2 z2 => ?_⟩
      refine ⟨z, _, rfl, ?_, sm.trans s2⟩
      rw [zsum_take (q := (st x).q k' * (st x).left) (by rw [List.getElem?_map, hk] <;> rfl)]
      exact z2
    · rintro σ H' ⟨a, v3, rfl, ha, sm⟩
      refine ⟨sm _ _ gL, ?_⟩
      rw [byK_len] at ha
      have s0 : Same H (upd H' (Ad.s x) (.dK (byK kI (st x).ks f))) := s1.trans (lock_same (s1 _ _ f1) (by rw [eL]; exact sm))
      have ha2 : FrQ K (upd H' (Ad.s x) (.dK (byK kI (st x).ks f))) a ((st x).tot * (st x).left) := by
        have e : zsum (((st x).ks.map fun k => (st x).q k * (st x).left).take (st x).ks.length) = (st x).tot * (st x).left := by
          rw [List.take_of_length_le (by rw [List.length_map]; exact Nat.le_refl _), zsum_scale] <;> rfl
        rw [e] at ha
        exact ha.tk (tk_unlock (sm _ _ gL))
      generalize upd H' (Ad.s x) (.dK (byK kI (st x).ks f)) = H2 at s0 ha2
      obtain ⟨wa, ew, hwa⟩ := hw2 x hx
      refine ⟨_, rfl, _, rfl, Ad.m, _, rfl, g_water (s0 _ _ h1), _, rfl, Ad.wt, _, rfl, dget_n (.inl (s0 _ _ hw1)) hx, rfl, fun t H3 s3 n3 h3 => ?_⟩
      refine q t H3 (s0.trans s3) ⟨a, wa, SqT.of (by rw [h3, ew]), ha2.same s3, (hwa.same s0).same s3⟩

end
end KR
namespace KR
open PySem PySem.Spec PyProof.Rows L2
section
variable {P : Program} {w : World} {K : PySem.W.Frag} {mg : Str → Option Value} {base : Heap}
theorem ok_l_bears (T : All K mg) : FnOk P w K mg base CX0 4 T.f_l_bears T.fd_l_bears ["_law_m", "_law_mould"] (sp_l_bears K) := by
  refine T.d_l_bears.fn.ok sc_l_bears (fun vs H Q E h => ?_) (fun cdv A outer s H vs Q E hr h => ?_)
  · obtain ⟨A, nms, st, v1, v2, lds, x, rfl, _⟩ := h
    rfl
  · obtain ⟨Ad, nms, st, v1, v2, lds, x, rfl, hl, hx, ft, q⟩ := h
    refine ⟨_, (pss_cons (ps_par (i := 2) (j := 3) (by rfl) sc_l_bears.nd rfl rfl (by decide) rfl rfl (pa_cons (pe_ix (ixT (K := K) rfl) (pe_call (ok_l_inside T) hr (by rfl) T.d_l_inside.mg T.d_l_inside.fn.kp T.d_l_inside.b .nil pass0 (pa_cons (pv 0) (pa_cons (pv 1) pa_nil))) pe_int (fun _ _ => rfl)) (pa_cons (pe_lstI pa_nil) pa_nil)) (by rfl))
      (pss_cons (ps_for PassesOwn.never rfl (pi_listK (K := K) rfl (pe_callB (call_sortedDI rfl) (by rfl) T.b_sorted (by decide +kernel) (pa_cons (pe_dget (hu_of hr) (pe_dget (hu_of hr) (pv 0) pe_str (fun _ _ => rfl)) (pv 1) (fun _ _ => rfl)) pa_nil))) (pg_name (i := 4) sc_l_bears.nd rfl (by first | exact Or.inl rfl | exact Or.inr rfl)) (pss_one (ps_expr (pe_bm PySem.F.plainAttrs_list PySem.F.slot_list_append PySem.F.type_list_append mt_append (pv 3) (pa_cons (pe_tupI (pa_cons (pv 4) (pa_cons (pe_call (ok_l_by T) (hr.mono (by decide)) (by rfl) T.d_l_by.mg T.d_l_by.fn.kp T.d_l_by.b .nil pass0 (pa_cons (pe_dget (hu_of hr) (pe_dget (hu_of hr) (pe_dget (hu_of hr) (pv 0) pe_str (fun _ _ => rfl)) (pv 1) (fun _ _ => rfl)) (pv 4) (fun _ _ => rfl)) (pa_cons (pe_tupI (pa_cons (pe_ix (ixT (K := K) rfl) (pv 2) pe_int (fun _ _ => rfl)) (pa_cons (pe_ix (ixT (K := K) rfl) (pv 2) pe_int (fun _ _ => rfl)) pa_nil))) pa_nil))) pa_nil))) pa_nil)))))
      (pss_one (ps_ret (pe_callTy (tupI (K := K) rfl) (by rfl) T.b_tuple (by decide +kernel) (pa_cons (pv 3) pa_nil)))))), ?_⟩
    have hl0 := hl
    obtain ⟨⟨vv, h1, h2⟩, hrm, hdp, hsg, hsx, ⟨wf, hw1, hw2⟩, hdr, hlv, si, nd, sn, ln⟩ := hl
    obtain ⟨f, f1, f2⟩ := hsx x hx
    refine ⟨_, rfl, _, rfl, Ad, nms, st, v1, v2, lds, x, rfl, hl0, hx, ft.add2, ft.big2, fun j H1 s1 hj => ?_⟩
    obtain ⟨ta, wa, j1, j2, j3⟩ := hj
    refine ⟨j, _, 0, _, rfl, rfl, j1, at0, rfl, fun l H2 s2 n2 h2l => ⟨_, _, rfl, ?_⟩⟩
    have s12 := s1.trans s2
    refine ⟨_, rfl, Ad.m, _, rfl, g_sugar (s12 _ _ h1), _, rfl, Ad.sg, _, rfl, dget_n (.inl (s12 _ _ hsg)) hx, ?_⟩
    have hl0 : H l = none := by
      cases e : H l with
      | none => rfl
      | some o => rw [s1 _ _ e] at n2; cases n2
    refine ⟨Ad.s x, _, (st x).ks, rfl, .inl (s12 _ _ f1), byK_keys, by have := ft.len; omega, fun ys p perm up np => ?_⟩
    obtain rfl := srt_eq perm up
    have s3 : Same H2 (upd H2 p (.lst ((srt (st x).ks).map V.int))) := same_new np
    have h3p : (upd H2 p (.lst ((srt (st x).ks).map V.int))) p = some (.lst ((srt (st x).ks).map V.int)) := upd_same
    generalize upd H2 p (.lst ((srt (st x).ks).map V.int)) = H3 at s3 h3p
    have lp : p ≠ l := (ne_of_none h2l np).symm
    refine ⟨p, rfl, ⟨_, SqL.of h3p⟩, ?_⟩
    refine for_list (K := K) (a := p) (xs := (srt (st x).ks).map V.int) (fun i σ H' => ∃ (acc : List V) (v4 : Option V), σ = [some (.ref Ad.m), some (.str x), some (.ref ta), some (.ref l), v4] ∧ Same H1 H' ∧ H' p = some (.lst ((srt (st x).ks).map V.int)) ∧ H' l = some (.lst acc) ∧ DtuAll K H' 3 acc (((srt (st x).ks).take i).map (st x).shp)) ⟨[], none, rfl, s2.trans s3, h3p, s3 _ _ h2l, .nil⟩ (fun i σ H' _ ⟨_, _, _, _, e, _⟩ => SqL.of e) (fun i v σ H' hi w => ?_) ?_
    · obtain ⟨acc, v4, rfl, sm, hp, hl, hd⟩ := w
      rw [List.getElem?_map] at hi
      obtain ⟨k, hk, rfl⟩ : ∃ k, (srt (st x).ks)[i]? = some k ∧ v = V.int k := by
        cases e : (srt (st x).ks)[i]? with
        | none => rw [e] at hi; cases hi
        | some k => rw [e] at hi; exact ⟨k, rfl, (Option.some.inj hi).symm⟩
      have hkm : k ∈ (st x).ks := mem_srt.mp (List.mem_of_getElem? hk)
      have kne : (st x).ks ≠ [] := fun z => by rw [z] at hkm; cases hkm
      obtain ⟨b, e, hb⟩ := f2 k hkm
      have s0 := s1.trans sm
      have la : acc.length ≤ 1000 := by
        have := hd.1
        have l2 := (srt_perm (st x).ks).length_eq
        have := ft.len
        rw [List.length_map, List.length_take] at *
        omega
      have W0 := ft.pos kne
      have hw2' : SqT K H' ta [.int ((st x).tot * (st x).left).num, .int (((st x).tot * (st x).left).den : Int)] := Same.tup sm j2
      refine ⟨_, rfl, .inl ⟨rfl, _, SqL.of hl⟩, ?_⟩
      refine ⟨_, rfl, _, rfl, Ad.m, _, rfl, g_sugar (s0 _ _ h1), _, rfl, Ad.sg, _, rfl, dget_n (.inl (s0 _ _ hsg)) hx, _, rfl, Ad.s x, _, rfl, dget_i (.inl (s0 _ _ f1)) hkm, ?_⟩
      refine ⟨_, rfl, ta, _, 1, _, rfl, rfl, hw2', at1, _, rfl, ta, _, 0, _, rfl, rfl, hw2', at0, rfl, fun wp H4 s4 n4 h4 => ?_⟩
      have hinv : FrQ K H4 wp (1 / ((st x).tot * (st x).left)) := by
        obtain ⟨e1, e2⟩ := inv_parts W0
        refine SqT.of ?_
        rw [h4, e1, e2]
      refine ⟨b, wp, _, _, by rw [e] <;> rfl, (hb.same s0).same s4, hinv, ft.big2 k hkm, inv_big W0 ft.bt, trivial, fun z H5 s5 n5 hz => ⟨rfl, fun tp H6 s6 n6 h6 => ?_⟩⟩
      have s46 := s4.trans (s5.trans s6)
      have hl6 := s46 _ _ hl
      refine ⟨l, _, _, rfl, rfl, hl6, small' (by omega), ?_⟩
      have tk6 : TK K H6 (upd H6 l (.lst (acc ++ [.ref tp]))) := TK.upd hl6 (fun _ y => by cases y) (fun _ _ y => by cases y)
      have hq : FrQ K H5 z ((st x).q k / (st x).tot) := by
        have e := share_eq (q := (st x).q k) (ft.tot kne) ft.lf
        rw [← e]
        exact hz
      refine ⟨acc ++ [.ref tp], _, rfl, Same.put (sm.trans s46) n2, by rw [upd_ne lp]; exact s46 _ _ hp, upd_same, ?_⟩
      rw [take_one hk, List.map_append]
      exact ((hd.tk (TK.same s46)).tk tk6).snoc ((DtuAll.tup (.cons (.int _ _) (.cons ((hq.same s6).dtu) .nil)) (SqT.of h6) (by show 2 ≤ 100000; decide)).tk tk6)
    · rintro σ H' ⟨acc, v4, rfl, sm, hp, hl, hd⟩
      rw [List.length_map, List.take_length] at hd
      have la : acc.length ≤ 1000 := by
        have := hd.1
        have l2 := (srt_perm (st x).ks).length_eq
        have := ft.len
        rw [List.length_map] at *
        omega
      refine ⟨_, rfl, ?_⟩
      refine ⟨l, acc, rfl, .inl ⟨SqL.of hl, fun a H5 s5 n5 h5 => ?_⟩⟩
      exact q a H5 (s1.trans (sm.trans s5)) (DtuAll.tup (hd.tk (TK.same s5)) (SqT.of h5) (by omega))

end
end KR
namespace KR
open PySem PySem.Spec PyProof.Rows L2
section
variable {P : Program} {w : World} {K : PySem.W.Frag} {mg : Str → Option Value} {base : Heap}
theorem ok_l_drain (T : All K mg) : FnOk P w K mg base CX0 4 T.f_l_drain T.fd_l_drain ["_law_m", "_law_mould"] (sp_l_drain K) := by
  refine T.d_l_drain.fn.ok sc_l_drain (fun vs H Q E h => ?_) (fun cdv A outer s H vs Q E hr h => ?_)
  · obtain ⟨A, nms, st, v1, v2, lds, x, rfl, _⟩ := h
    rfl
  · obtain ⟨Ad, nms, st, v1, v2, lds, x, rfl, hl, lay, ft, b1, b2, w1, w2, w3, w4⟩ := h
    refine ⟨_, (pss_cons (ps_if (pt_cmp (pc_dnotin (hu_of hr) (pv 1) (pe_dget (hu_of hr) (pv 0) pe_str (fun _ _ => rfl))) (by with_unfolding_all rfl)) (pss_one (ps_ret (pe_tupI (pa_cons pe_str (pa_cons pe_str (pa_cons (pv 1) pa_nil)))))) pss_nil)
      (pss_cons (ps_if (pt_cmpR (op_eqDE (hu_of hr)) (pe_dget (hu_of hr) (pe_dget (hu_of hr) (pv 0) pe_str (fun _ _ => rfl)) (pv 1) (fun _ _ => rfl)) pe_dnewK (nomark _)) (pss_one (ps_ret (pe_tupI (pa_cons pe_str (pa_cons pe_str (pa_cons (pv 1) pa_nil)))))) pss_nil)
      (pss_cons (ps_if (pt_val (pe_dget (hu_of hr) (pe_dget (hu_of hr) (pv 0) pe_str (fun _ _ => rfl)) (pv 1) (fun _ _ => rfl))) (pss_one (ps_ret (pe_tupI (pa_cons pe_str (pa_cons pe_str (pa_cons (pv 1) pa_nil)))))) pss_nil)
      (pss_cons (ps_asg (pe_call (ok_l_inside T) hr (by rfl) T.d_l_inside.mg T.d_l_inside.fn.kp T.d_l_inside.b .nil pass0 (pa_cons (pv 0) (pa_cons (pv 1) pa_nil))) (pg_tupK (K := K) rfl rfl (pgs_cons (pg_name (i := 2) sc_l_drain.nd rfl (by first | exact Or.inl rfl | exact Or.inr rfl)) (pgs_cons (pg_name (i := 3) sc_l_drain.nd rfl (by first | exact Or.inl rfl | exact Or.inr rfl)) pgs_nil))))
      (pss_cons (ps_set (i := 4) sc_l_drain.nd rfl (by first | exact Or.inl rfl | exact Or.inr rfl) (pe_dget (hu_of hr) (pe_dget (hu_of hr) (pv 0) pe_str (fun _ _ => rfl)) (pv 1) (fun _ _ => rfl)))
      (pss_cons (ps_par (i := 5) (j := 6) (by rfl) sc_l_drain.nd rfl rfl (by decide) rfl rfl (pa_cons (pe_tupI (pa_cons (pe_call (ok_l_by T) (hr.mono (by decide)) (by rfl) T.d_l_by.mg T.d_l_by.fn.kp T.d_l_by.b .nil pass0 (pa_cons (pv 2) (pa_cons (pv 4) pa_nil))) (pa_cons (pv 3) pa_nil))) (pa_cons (pe_call (ok_l_low T) (hr.mono (by decide)) (by rfl) T.d_l_low.mg T.d_l_low.fn.kp T.d_l_low.b .nil pass0 (pa_cons (pe_op op_sub (pe_ix (ixT (K := K) rfl) (pv 4) pe_int (fun _ _ => rfl)) (pe_ix (ixT (K := K) rfl) (pv 4) pe_int (fun _ _ => rfl))) (pa_cons (pe_ix (ixT (K := K) rfl) (pv 4) pe_int (fun _ _ => rfl)) pa_nil))) pa_nil)) (by rfl))
      (pss_cons (ps_for PassesOwn.never rfl (pi_listK (K := K) rfl (pe_callTy (call_listD rfl) (by rfl) T.b_list (by decide +kernel) (pa_cons (pe_dget (hu_of hr) (pe_dget (hu_of hr) (pv 0) pe_str (fun _ _ => rfl)) (pv 1) (fun _ _ => rfl)) pa_nil))) (pg_name (i := 7) sc_l_drain.nd rfl (by first | exact Or.inl rfl | exact Or.inr rfl)) (pss_one (ps_asg (pe_call (ok_l_by T) (hr.mono (by decide)) (by rfl) T.d_l_by.mg T.d_l_by.fn.kp T.d_l_by.b .nil pass0 (pa_cons (pe_dget (hu_of hr) (pe_dget (hu_of hr) (pe_dget (hu_of hr) (pv 0) pe_str (fun _ _ => rfl)) (pv 1) (fun _ _ => rfl)) (pv 7) (fun _ _ => rfl)) (pa_cons (pv 6) pa_nil))) (pg_sub (pe_dget (hu_of hr) (pe_dget (hu_of hr) (pv 0) pe_str (fun _ _ => rfl)) (pv 1) (fun _ _ => rfl)) (pv 7) (set_dict (hu_of hr))))))
      (pss_cons (ps_asg (pe_tupI (pa_cons (pe_tupI (pa_cons pe_int (pa_cons pe_int pa_nil))) (pa_cons pe_bl pa_nil))) (pg_tupK (K := K) rfl rfl (pgs_cons (pg_sub (pe_dget (hu_of hr) (pv 0) pe_str (fun _ _ => rfl)) (pv 1) (set_dict (hu_of hr))) (pgs_cons (pg_sub (pe_dget (hu_of hr) (pv 0) pe_str (fun _ _ => rfl)) (pv 1) (set_dict (hu_of hr))) pgs_nil))))
      (pss_cons (ps_asg (pe_tupI (pa_cons (pe_call (ok_l_plus T) (hr.mono (by decide)) (by rfl) T.d_l_plus.mg T.d_l_plus.fn.kp T.d_l_plus.b .nil pass0 (pa_cons (pe_ix (ixT (K := K) rfl) (pe_dget (hu_of hr) (pv 0) pe_str (fun _ _ => rfl)) pe_int (fun _ _ => rfl)) (pa_cons (pe_ix (ixT (K := K) rfl) (pv 5) pe_int (fun _ _ => rfl)) pa_nil))) (pa_cons (pe_call (ok_l_plus T) (hr.mono (by decide)) (by rfl) T.d_l_plus.mg T.d_l_plus.fn.kp T.d_l_plus.b .nil pass0 (pa_cons (pe_ix (ixT (K := K) rfl) (pe_dget (hu_of hr) (pv 0) pe_str (fun _ _ => rfl)) pe_int (fun _ _ => rfl)) (pa_cons (pe_ix (ixT (K := K) rfl) (pv 5) pe_int (fun _ _ => rfl)) pa_nil))) pa_nil))) (pg_sub (pv 0) pe_str (set_dict (hu_of hr))))
      (pss_one (ps_ret (pv 5)))))))))))), ?_⟩
    have hl0 := hl
    obtain ⟨⟨vv, h1, vj, rfl, h2⟩, ⟨rf, hrm, hrm2⟩, ⟨df, hdp, hdp2⟩, hsg, hsx, ⟨wf, hw1, hw2⟩, hdr, hlv, si, nd, sn, ln⟩ := hl
    refine ⟨_, rfl, _, rfl, Ad.m, _, rfl, g_room h1, ?_⟩
    by_cases hx : x ∈ nms
    case neg =>
      refine ⟨Ad.rm, _, rfl, dget_n0 hrm hx, _, rfl, iteT ?_⟩
      refine ⟨_, rfl, rfl, fun a H' s n h => w1 hx a H' s (DtuAll.tup (.cons (.str _ _ (by decide +kernel)) (.cons (.str _ _ (by decide +kernel)) (.cons (.str _ _ lay) .nil))) (SqT.of h) (by show 3 ≤ 100000; decide))⟩
    refine ⟨Ad.rm, _, rfl, dget_n hrm hx, _, rfl, iteF ?_⟩
    obtain ⟨f, f1, f2⟩ := hsx x hx
    refine ⟨_, rfl, Ad.m, _, rfl, g_sugar h1, _, rfl, Ad.sg, _, rfl, dget_n (.inl hsg) hx, fun d0 hd0 => ?_⟩
    have s0 : Same H (upd H d0 (.dK [])) := same_new hd0
    refine ⟨Ad.s x, d0, _, rfl, rfl, s0 _ _ f1, upd_same, _, rfl, ?_⟩
    rw [byK_emp]
    generalize upd H d0 (.dK []) = H1 at s0
    by_cases hk : (st x).ks = []
    case pos =>
      rw [hk]
      refine iteT ?_
      refine ⟨_, rfl, rfl, fun a H' s n h => w2 hx hk a H' (s0.trans s) (DtuAll.tup (.cons (.str _ _ (by decide +kernel)) (.cons (.str _ _ (by decide +kernel)) (.cons (.str _ _ lay) .nil))) (SqT.of h) (by show 3 ≤ 100000; decide))⟩
    have ke : (st x).ks.isEmpty = false := by
      cases e : (st x).ks with
      | nil => exact absurd e hk
      | cons => rfl
    rw [ke]
    refine iteF ?_
    have drx : DGet H1 Ad.dr (.str x) (some (.bl (st x).cur)) := dget_n (.inl (s0 _ _ hdr)) hx
    refine ⟨_, rfl, Ad.m, _, rfl, g_dry (s0 _ _ h1), _, rfl, Ad.dr, _, rfl, drx, _, rfl, ?_⟩
    cases hcur : (st x).cur with
    | true =>
      refine iteT ?_
      refine ⟨_, rfl, rfl, fun a H' s n h => w3 hx hk hcur a H' (s0.trans s) (DtuAll.tup (.cons (.str _ _ (by decide +kernel)) (.cons (.str _ _ (by decide +kernel)) (.cons (.str _ _ lay) .nil))) (SqT.of h) (by show 3 ≤ 100000; decide))⟩
    | false =>
    refine iteF ?_
    have F2 := ft hx
    refine ⟨_, rfl, _, rfl, Ad, nms, st, v1, v2, lds, x, rfl, hl0.same s0, hx, F2.add2, F2.big2, fun j H2 s2 hj => ?_⟩
    obtain ⟨sa, wa, j1, j2, j3⟩ := hj
    refine ⟨j, _, rfl, j1, rfl, _, _, rfl, _, _, rfl, rfl, ?_⟩
    have s02 := s0.trans s2
    obtain ⟨da, ed, hda⟩ := hdp2 x hx
    refine ⟨_, rfl, Ad.m, _, rfl, g_drip (s02 _ _ h1), _, rfl, Ad.dp, .ref da, rfl, (by rw [← ed]; exact dget_n (Same.rd s02 hdp) hx), ?_⟩
    have hda2 := hda.same s02
    have lft : (st x).left = 1 := by unfold Mo.left; rw [hcur] <;> rfl
    refine ⟨_, rfl, _, rfl, sa, da, _, _, rfl, j2, hda2, F2.bt, F2.drip, trivial, fun z1 H3 s3 n3 h3 => ⟨_, rfl, rfl, fun gp H4 s4 n4 h4 => ?_⟩⟩
    have s24 := s3.trans s4
    have hda4 : SqT K H4 da [.int (st x).drip.num, .int ((st x).drip.den : Int)] := hda2.same s24
    refine ⟨_, rfl, da, _, 1, _, rfl, rfl, hda4, at1, _, rfl, da, _, 0, _, rfl, rfl, hda4, at0, _, _, rfl, rfl, _, rfl, da, _, 1, _, rfl, rfl, hda4, at1, ?_⟩
    refine ⟨_, _, rfl, den_ne' _, lt_up (sub_lt F2.drip.2 F2.drip.1) (by decide), lt_up F2.drip.2 (by decide), fun z2 H5 s5 n5 h5 => ⟨_, _, rfl, ?_⟩⟩
    have e1d : rq (((st x).drip.den : Int) - (st x).drip.num) ((st x).drip.den : Int) = 1 - (st x).drip := by
      have k := rq_sub 1 (st x).drip
      have e1 : (1 : Rat).num = 1 := rfl
      have e2 : ((1 : Rat).den : Int) = 1 := rfl
      rw [e1, e2, Int.one_mul, Int.mul_one] at k
      exact k
    rw [e1d] at h5
    have s05 := s02.trans (s24.trans s5)
    have nx := sn x hx
    simp only [List.mem_cons, List.not_mem_nil, or_false, not_or] at nx
    obtain ⟨x1, x2, x3, x4, x5, x6⟩ := nx
    refine ⟨_, rfl, Ad.m, _, rfl, g_sugar (s05 _ _ h1), _, rfl, Ad.sg, _, rfl, dget_n (.inl (s05 _ _ hsg)) hx, Ad.s x, _, rfl, .inl (s05 _ _ f1), fun p np => ?_⟩
    rw [byI_keys]
    have s6 : Same H5 (upd H5 p (.lst ((st x).ks.map V.int))) := same_new np
    have hp6 : (upd H5 p (.lst ((st x).ks.map V.int))) p = some (.lst ((st x).ks.map V.int)) := upd_same
    generalize upd H5 p (.lst ((st x).ks.map V.int)) = H6 at s6 hp6
    have s06 := s05.trans s6
    refine ⟨p, rfl, ⟨_, SqL.of hp6⟩, ?_⟩
    have psx : ¬ p = Ad.s x := fun z => by rw [z, s05 _ _ f1] at np; cases np
    have hst6 : FrQ K H6 z2 (1 - (st x).drip) := h5.same s6
    obtain ⟨va, vb, q1, q2, q3⟩ := h2
    have fr : Off K (fun _ => False) H H6 := .same s06
    refine for_list (K := K) (a := p) (xs := (st x).ks.map V.int) (fun i σ H' => ∃ (fi : Int → V) (v7 : Option V), σ = [some (.ref Ad.m), some (.str x), some (.ref sa), some (.ref wa), some (.ref da), some (.ref gp), some (.ref z2), v7] ∧ Off K (· = Ad.s x) H6 H' ∧ H' (Ad.s x) = some (.dK (byK kI (st x).ks fi)) ∧ ∀ k ∈ (st x).ks, FQ K H' (fi k) (if k ∈ (st x).ks.take i then (st x).q k * (1 - (st x).drip) else (st x).q k * (st x).left)) ⟨f, none, rfl, .refl, s06 _ _ f1, fun k hk => by rw [if_neg (by simp)]; exact (f2 k hk).tk (TK.same s06)⟩ (fun i σ H' _ ⟨_, _, _, o, _⟩ => SqL.of (o.lst psx hp6)) ?_ ?_
    · rintro i v σ H' hi ⟨fi, v7, rfl, o, g1, g2⟩
      rw [List.getElem?_map] at hi
      obtain ⟨k, hk', rfl⟩ : ∃ k, (st x).ks[i]? = some k ∧ v = V.int k := by
        cases e : (st x).ks[i]? with
        | none => rw [e] at hi; cases hi
        | some k => rw [e] at hi; exact ⟨k, rfl, (Option.some.inj hi).symm⟩
      have hkm : k ∈ (st x).ks := List.mem_of_getElem? hk'
      have notin : k ∉ (st x).ks.take i := fun h => by
        have nd2 : ((st x).ks.take (i + 1)).Nodup := (List.take_sublist _ _).nodup F2.nd
        rw [take_one hk', List.nodup_append] at nd2
        exact nd2.2.2 _ h _ (List.mem_singleton.mpr rfl) rfl
      obtain ⟨b, eb, hb⟩ := g2 k hkm
      rw [if_neg notin] at hb
      have hm' := o.dK (fun z => x1 z.symm) (s06 _ _ h1)
      have hsg' := o.dK (fun z => x4 z.symm) (s06 _ _ hsg)
      refine ⟨_, rfl, Ad.m, _, rfl, g_sugar hm', _, rfl, Ad.sg, _, rfl, dget_n (.inl hsg') hx, _, rfl, Ad.s x, _, rfl, dget_i (.inl g1) hkm, _, rfl, b, z2, _, _, by rw [eb] <;> rfl, hb, hst6.tk o.tk, F2.big2 k hkm, F2.stay, trivial, fun z H7 s7 n7 h7 => ?_⟩
      have ln7 := F2.len
      refine ⟨_, rfl, Ad.m, _, rfl, g_sugar (s7 _ _ hm'), _, rfl, Ad.sg, _, rfl, dget_n (.inl (s7 _ _ hsg')) hx, _, rfl, Ad.s x, _, rfl, dput_i (s7 _ _ g1) (by omega), ?_⟩
      have tk7 : TK K H7 (upd H7 (Ad.s x) (.dK (byK kI (addK (st x).ks k) (set1 fi k (.ref z))))) := TK.upd (s7 _ _ g1) (fun _ y => by cases y) (fun _ _ y => by cases y)
      refine ⟨set1 fi k (.ref z), _, rfl, o.seq ((Off.same s7).write rfl g1 .dK), by rw [upd_same, addK_in hkm], fun y hy => ?_⟩
      rw [take_one hk']
      by_cases e : y = k
      · subst e
        rw [set1_same, if_pos (List.mem_append_right _ (List.mem_singleton.mpr rfl))]
        refine ⟨z, rfl, ?_⟩
        have h7' : FrQ K H7 z ((st x).q y * (st x).left * (1 - (st x).drip)) := h7
        rw [lft, Rat.mul_one] at h7'
        exact h7'.tk tk7
      · rw [set1_ne e]
        have e2 : (y ∈ (st x).ks.take i ++ [k]) ↔ y ∈ (st x).ks.take i := by
          rw [List.mem_append, List.mem_singleton]
          exact ⟨fun h => h.resolve_right e, .inl⟩
        have k2 := ((g2 y hy).tk (TK.same s7)).tk tk7
        by_cases c : y ∈ (st x).ks.take i
        · rw [if_pos c] at k2
          rw [if_pos (e2.mpr c)]
          exact k2
        · rw [if_neg c] at k2
          rw [if_neg (fun z => c (e2.mp z))]
          exact k2
    · rintro σ H7 ⟨fi, v7, rfl, o, g1, g2⟩
      rw [List.length_map, List.take_length] at g2
      refine ⟨rfl, fun t1 H8 s8 n8 h8 => ⟨rfl, fun t2 H9 s9 n9 h9 => ?_⟩⟩
      have s89 := s8.trans s9
      have o9 : Off K (· = Ad.s x) H6 H9 := o.seq (.same s89)
      have oH : Off K (· = Ad.s x) H H9 := (Off.same s06).seq o9
      have k1 := oH.dK (fun z => x1 z.symm) h1
      have k4 := oH.dK (fun z => x5 z.symm) hw1
      have k5 := oH.dK (fun z => x6 z.symm) hdr
      simp only [List.nodup_cons, List.mem_cons, List.not_mem_nil, or_false, not_or, List.nodup_nil, and_true, not_false_iff] at nd
      obtain ⟨⟨a1, a2, a3, a4, a5⟩, ⟨c1, c2, c3, c4⟩, ⟨d1, d2, d3⟩, ⟨e1', e2'⟩, e5⟩ := nd
      refine ⟨t2, _, rfl, SqT.of h9, rfl, _, _, rfl, _, rfl, Ad.m, _, rfl, g_water k1, _, rfl, Ad.wt, _, rfl, dput_n k4 (by omega), _, _, rfl, _, rfl, Ad.m, _, rfl, g_dry (by rw [upd_ne a4]; exact k1), _, rfl, Ad.dr, _, rfl, dput_n (by rw [upd_ne (Ne.symm e5)]; exact k5) (by omega), rfl, ?_⟩
      have o9A : Off K (fun a => a = Ad.wt ∨ a = Ad.dr) H9 (upd (upd H9 Ad.wt (.dK (byK kN (addK nms x) (set1 wf x (.ref t1))))) Ad.dr (.dK (byK kN (addK nms x) (set1 (fun x => V.bl (st x).cur) x (.bl true))))) := (Off.refl.write (.inl rfl) k4 .dK).write (.inr rfl) k5 .dK
      have kA1 : (upd (upd H9 Ad.wt (.dK (byK kN (addK nms x) (set1 wf x (.ref t1))))) Ad.dr (.dK (byK kN (addK nms x) (set1 (fun x => V.bl (st x).cur) x (.bl true))))) Ad.m = some (.dK (mkv Ad (.ref vj))) := by rw [upd_ne a5, upd_ne a4]; exact k1
      have gw : (upd (upd H9 Ad.wt (.dK (byK kN (addK nms x) (set1 wf x (.ref t1))))) Ad.dr (.dK (byK kN (addK nms x) (set1 (fun x => V.bl (st x).cur) x (.bl true))))) Ad.wt = some (.dK (byK kN (addK nms x) (set1 wf x (.ref t1)))) := by rw [upd_ne e5, upd_same]
      have gd : (upd (upd H9 Ad.wt (.dK (byK kN (addK nms x) (set1 wf x (.ref t1))))) Ad.dr (.dK (byK kN (addK nms x) (set1 (fun x => V.bl (st x).cur) x (.bl true))))) Ad.dr = some (.dK (byK kN (addK nms x) (set1 (fun x => V.bl (st x).cur) x (.bl true)))) := upd_same
      generalize (upd (upd H9 Ad.wt (.dK (byK kN (addK nms x) (set1 wf x (.ref t1))))) Ad.dr (.dK (byK kN (addK nms x) (set1 (fun x => V.bl (st x).cur) x (.bl true))))) = HA at o9A kA1 gw gd
      rw [addK_in hx] at gw gd
      have gs : HA (Ad.s x) = some (.dK (byK kI (st x).ks fi)) := o9A.dK (fun z => z.elim x5 x6) (s89 _ _ g1)
      have tkA : TK K H6 HA := o9.tk.trans o9A.tk
      have tk4 : TK K H4 HA := (TK.same (s5.trans s6)).trans tkA
      have tkH : TK K H HA := (TK.same s06).trans tkA
      have hz1 : FrQ K HA z1 ((st x).s * (st x).drip) := by
        rw [F2.sum]
        exact ((show FrQ K H3 z1 ((st x).tot * (st x).left * (st x).drip) from h3).same s4).tk tk4
      have hgp : SqT K HA gp [.ref z1, .ref wa] := tk4 _ _ (SqT.of h4)
      have hwa : FrQ K HA wa (st x).w := (j3.same s24).tk tk4
      refine ⟨_, rfl, Ad.m, _, rfl, g_vat kA1, vj, _, 0, _, rfl, rfl, tkH _ _ q1, at0, _, rfl, gp, _, 0, _, rfl, rfl, hgp, at0, va, z1, v1, _, rfl, q2.tk tkH, hz1, b1, F2.gone, trivial, fun y1 HB sB nB hB => ?_⟩
      refine ⟨_, rfl, Ad.m, _, rfl, g_vat (sB _ _ kA1), vj, _, 1, _, rfl, rfl, Same.tup sB (tkH _ _ q1), at1, _, rfl, gp, _, 1, _, rfl, rfl, Same.tup sB hgp, at1, vb, wa, v2, _, rfl, (q3.tk tkH).same sB, hwa.same sB, b2, F2.w, trivial, fun y2 HC sC nC hC => ?_⟩
      refine ⟨rfl, fun vt HD sD nD hD => ⟨_, rfl, Ad.m, _, rfl, p_vat ((sB.trans (sC.trans sD)) _ _ kA1), ?_⟩⟩
      have sAD := sB.trans (sC.trans sD)
      have oF : Off K (fun a => a = Ad.s x ∨ a = Ad.wt ∨ a = Ad.dr ∨ a = Ad.m) H (upd HD Ad.m (.dK (mkv Ad (.ref vt)))) :=
        (((oH.mono fun _ z => .inl z).seq (o9A.mono fun _ z => z.elim (fun z => .inr (.inl z)) fun z => .inr (.inr (.inl z)))).seq (.same sAD)).write (.inr (.inr (.inr rfl))) h1 .dK
      have tkD : TK K HD (upd HD Ad.m (.dK (mkv Ad (.ref vt)))) := TK.upd (sAD _ _ kA1) (fun _ y => by cases y) (fun _ _ y => by cases y)
      have t9D : TK K H9 (upd HD Ad.m (.dK (mkv Ad (.ref vt)))) := (o9A.tk.trans (TK.same sAD)).trans tkD
      have law : LawAt K (upd HD Ad.m (.dK (mkv Ad (.ref vt)))) Ad nms (set1 st x (st x).drained) (v1 + (st x).s * (st x).drip) (v2 + (st x).w) lds := by
        refine hl0.rebuild hx oF ⟨.ref vt, upd_same, vt, rfl, JuQ.tk (.new hD ((show FrQ K HB y1 (v1 + (st x).s * (st x).drip) from hB).same (sC.trans sD)) ((show FrQ K HC y2 (v2 + (st x).w) from hC).same sD)) tkD⟩ ⟨fi, by rw [upd_ne (fun z => x1 z)]; exact sAD _ _ gs, fun k hk2 => ?_⟩ ⟨set1 wf x (.ref t1), by rw [upd_ne (Ne.symm a4)]; exact sAD _ _ gw, fun y hy => ?_⟩ ?_ rfl rfl
        · have e := g2 k hk2
          rw [if_pos (show k ∈ (st x).ks from hk2)] at e
          exact (e.tk (TK.same s89)).tk t9D
        · by_cases e : y = x
          · rw [e, set1_same, set1_same]
            exact ⟨t1, rfl, ((FrQ.int (z := 0) h8 : FrQ K H8 t1 ((0 : Int) : Rat)).same s9).tk t9D⟩
          · rw [set1_ne e, set1_ne e]
            exact ((hw2 y hy).tk oH.tk).tk t9D
        · rw [upd_ne (Ne.symm a5), sAD _ _ gd]
          congr 2
          refine byK_congr fun y _ => ?_
          by_cases e : y = x
          · rw [e, set1_same, set1_same] <;> rfl
          · rw [set1_ne e, set1_ne e]
      refine ⟨_, rfl, w4 hx hk hcur gp _ law (JuQ.tk ⟨z1, wa, Same.tup sAD hgp, hz1.same sAD, hwa.same sAD⟩ tkD) (oF.mono fun b z => ?_)⟩
      rcases z with z | z | z | z
      · exact .inr (.inr (.inr (.inr (.inr ⟨x, hx, z⟩))))
      · exact .inr (.inr (.inl z))
      · exact .inr (.inr (.inr (.inl z)))
      · exact .inl z

end
end KR
namespace KR
open PySem PySem.Spec PyProof.Rows L2
section
variable {P : Program} {w : World} {K : PySem.W.Frag} {mg : Str → Option Value} {base : Heap}
theorem ok_l_knock (T : All K mg) : FnOk P w K mg base CX0 5 T.f_l_knock T.fd_l_knock ["_law_m", "_law_mould"] (sp_l_knock K) := by
  refine T.d_l_knock.fn.ok sc_l_knock (fun vs H Q E h => ?_) (fun cdv A outer s H vs Q E hr h => ?_)
  · obtain ⟨A, nms, st, v1, v2, lds, x, rfl, _⟩ := h
    rfl
  · obtain ⟨Ad, nms, st, v1, v2, lds, x, rfl, hl, lay, ft, wz, lb, w1, w2, w3, w4⟩ := h
    refine ⟨_, (pss_cons (ps_if (pt_cmp (pc_dnotin (hu_of hr) (pv 1) (pe_dget (hu_of hr) (pv 0) pe_str (fun _ _ => rfl))) (by with_unfolding_all rfl)) (pss_one (ps_ret (pe_tupI (pa_cons pe_str (pa_cons pe_str (pa_cons (pv 1) pa_nil)))))) pss_nil)
      (pss_cons (ps_if (pt_cmpR (op_eqDE (hu_of hr)) (pe_dget (hu_of hr) (pe_dget (hu_of hr) (pv 0) pe_str (fun _ _ => rfl)) (pv 1) (fun _ _ => rfl)) pe_dnewK (nomark _)) (pss_one (ps_ret (pe_tupI (pa_cons pe_str (pa_cons pe_str (pa_cons (pv 1) pa_nil)))))) pss_nil)
      (pss_cons (ps_if (pt_not (pt_val (pe_dget (hu_of hr) (pe_dget (hu_of hr) (pv 0) pe_str (fun _ _ => rfl)) (pv 1) (fun _ _ => rfl)))) (pss_one (ps_ret (pe_tupI (pa_cons pe_str (pa_cons pe_str (pa_cons (pv 1) pa_nil)))))) pss_nil)
      (pss_cons (ps_set (i := 2) sc_l_knock.nd rfl (by first | exact Or.inl rfl | exact Or.inr rfl) (pe_tupI (pa_cons (pe_ix (ixT (K := K) rfl) (pe_call (ok_l_inside T) (hr.mono (by decide)) (by rfl) T.d_l_inside.mg T.d_l_inside.fn.kp T.d_l_inside.b .nil pass0 (pa_cons (pv 0) (pa_cons (pv 1) pa_nil))) pe_int (fun _ _ => rfl)) (pa_cons (pe_call (ok_l_bears T) hr (by rfl) T.d_l_bears.mg T.d_l_bears.fn.kp T.d_l_bears.b .nil pass0 (pa_cons (pv 0) (pa_cons (pv 1) pa_nil))) pa_nil))))
      (pss_cons (ps_expr (pe_bm PySem.F.plainAttrs_list PySem.F.slot_list_append PySem.F.type_list_append mt_append (pe_dget (hu_of hr) (pv 0) pe_str (fun _ _ => rfl)) (pa_cons (pe_op (op_catTI (K := K) rfl) (pe_tupI (pa_cons (pv 1) pa_nil)) (pv 2)) pa_nil)))
      (pss_cons (ps_asg (pe_tupI (pa_cons pe_dnewK (pa_cons pe_bl pa_nil))) (pg_tupK (K := K) rfl rfl (pgs_cons (pg_sub (pe_dget (hu_of hr) (pv 0) pe_str (fun _ _ => rfl)) (pv 1) (set_dict (hu_of hr))) (pgs_cons (pg_sub (pe_dget (hu_of hr) (pv 0) pe_str (fun _ _ => rfl)) (pv 1) (set_dict (hu_of hr))) pgs_nil))))
      (pss_one (ps_ret (pv 2))))))))), ?_⟩
    have hl0 := hl
    obtain ⟨⟨vv, h1, vj, rfl, h2⟩, ⟨rf, hrm, hrm2⟩, ⟨df, hdp, hdp2⟩, hsg, hsx, ⟨wf, hw1, hw2⟩, hdr, hlv, si, nd, sn, ln⟩ := hl
    refine ⟨_, rfl, _, rfl, Ad.m, _, rfl, g_room h1, ?_⟩
    by_cases hx : x ∈ nms
    case neg =>
      refine ⟨Ad.rm, _, rfl, dget_n0 hrm hx, _, rfl, iteT ?_⟩
      refine ⟨_, rfl, rfl, fun a H' s n h => w1 hx a H' s (DtuAll.tup (.cons (.str _ _ (by decide +kernel)) (.cons (.str _ _ (by decide +kernel)) (.cons (.str _ _ lay) .nil))) (SqT.of h) (by show 3 ≤ 100000; decide))⟩
    refine ⟨Ad.rm, _, rfl, dget_n hrm hx, _, rfl, iteF ?_⟩
    obtain ⟨f, f1, f2⟩ := hsx x hx
    refine ⟨_, rfl, Ad.m, _, rfl, g_sugar h1, _, rfl, Ad.sg, _, rfl, dget_n (.inl hsg) hx, fun d0 hd0 => ?_⟩
    have s0 : Same H (upd H d0 (.dK [])) := same_new hd0
    refine ⟨Ad.s x, d0, _, rfl, rfl, s0 _ _ f1, upd_same, _, rfl, ?_⟩
    rw [byK_emp]
    generalize upd H d0 (.dK []) = H1 at s0
    by_cases hk : (st x).ks = []
    case pos =>
      rw [hk]
      refine iteT ?_
      refine ⟨_, rfl, rfl, fun a H' s n h => w2 hx hk a H' (s0.trans s) (DtuAll.tup (.cons (.str _ _ (by decide +kernel)) (.cons (.str _ _ (by decide +kernel)) (.cons (.str _ _ lay) .nil))) (SqT.of h) (by show 3 ≤ 100000; decide))⟩
    have ke : (st x).ks.isEmpty = false := by
      cases e : (st x).ks with
      | nil => exact absurd e hk
      | cons => rfl
    rw [ke]
    refine iteF ?_
    have drx : DGet H1 Ad.dr (.str x) (some (.bl (st x).cur)) := dget_n (.inl (s0 _ _ hdr)) hx
    refine ⟨_, rfl, Ad.m, _, rfl, g_dry (s0 _ _ h1), _, rfl, Ad.dr, _, rfl, drx, _, rfl, ?_⟩
    cases hcur : (st x).cur with
    | false =>
      refine iteT ?_
      refine ⟨_, rfl, rfl, fun a H' s n h => w3 hx hk hcur a H' (s0.trans s) (DtuAll.tup (.cons (.str _ _ (by decide +kernel)) (.cons (.str _ _ (by decide +kernel)) (.cons (.str _ _ lay) .nil))) (SqT.of h) (by show 3 ≤ 100000; decide))⟩
    | true =>
    refine iteF ?_
    have F2 := ft hx
    refine ⟨_, rfl, _, rfl, Ad, nms, st, v1, v2, lds, x, rfl, hl0.same s0, hx, F2.add2, F2.big2, fun j H2 s2 hj => ?_⟩
    obtain ⟨sa, wa, j1, j2, j3⟩ := hj
    have s02 := s0.trans s2
    refine ⟨j, _, 0, _, rfl, rfl, j1, at0, _, rfl, _, rfl, Ad, nms, st, v1, v2, lds, x, rfl, hl0.same s02, hx, F2, fun a3 H3 s3 hd3 => ⟨rfl, fun lo H4 s4 n4 h4 => ?_⟩⟩
    have s04 := s02.trans (s3.trans s4)
    have hloaf : SqT K H4 lo [.ref sa, .ref a3] := SqT.of h4
    obtain ⟨lvs, l1, l2, l3⟩ := hlv
    have ll : lvs.length = lds.length := l3.1
    refine ⟨_, rfl, Ad.m, _, rfl, g_loaves (s04 _ _ h1), .inl ⟨rfl, _, SqL.of (s04 _ _ l1)⟩, ?_⟩
    refine ⟨_, rfl, rfl, fun t1 H5 s5 n5 h5 => ⟨_, rfl, t1, lo, _, _, rfl, rfl, SqT.of h5, Same.tup s5 hloaf, nofun, small (by show 1 + 2 ≤ 100000; decide), fun cp H6 s6 h6 => ?_⟩⟩
    have s06 := s04.trans (s5.trans s6)
    have l6 := s06 _ _ l1
    refine ⟨Ad.lv, _, _, rfl, rfl, l6, small' (by omega), ?_⟩
    have o67 : Off K (· = Ad.lv) H6 (upd H6 Ad.lv (.lst (lvs ++ [.ref cp]))) := .put l6 .lst rfl
    have l7 : (upd H6 Ad.lv (.lst (lvs ++ [.ref cp]))) Ad.lv = some (.lst (lvs ++ [.ref cp])) := upd_same
    have bk7 : ∀ b, (upd H6 Ad.lv (.lst (lvs ++ [.ref cp]))) b = none → H6 b = none := fun b e => by
      by_cases c : b = Ad.lv
      · rw [c, upd_same] at e; cases e
      · rw [upd_ne c] at e; exact e
    generalize upd H6 Ad.lv (.lst (lvs ++ [.ref cp])) = H7 at o67 l7 bk7
    have o7 : Off K (fun a => a = Ad.sg ∨ a = Ad.dr ∨ a = Ad.lv) H H7 := (Off.same s06).seq (o67.mono fun _ z => .inr (.inr z))
    simp only [List.nodup_cons, List.mem_cons, List.not_mem_nil, or_false, not_or, List.nodup_nil, and_true, not_false_iff] at nd
    obtain ⟨⟨a1, a2, aa3, a4, a5⟩, ⟨c1, c2, c3, c4⟩, ⟨d1, d2, d3⟩, ⟨e1', e2'⟩, e5⟩ := nd
    have nlv : ∀ {b : Addr} {kvs : List (Key × V)}, H b = some (.dK kvs) → b ≠ Ad.lv := fun k z => by rw [z, l1] at k; cases k
    have k1 := o67.dK (nlv h1) (s06 _ _ h1)
    have ksg := o67.dK (nlv hsg) (s06 _ _ hsg)
    have kdr := o67.dK (nlv hdr) (s06 _ _ hdr)
    refine fun g hg => ⟨rfl, fun t2 H8 s8 n8 h8 => ?_⟩
    have ng : H g = none := by
      have e := bk7 g hg
      cases c : H g with
      | none => rfl
      | some o => rw [s06 _ _ c] at e; cases e
    have s78 : Same H7 H8 := (same_new hg).trans s8
    have g8 : H8 g = some (.dK []) := s8 _ _ upd_same
    refine ⟨t2, _, rfl, SqT.of h8, rfl, _, _, rfl, _, rfl, Ad.m, _, rfl, g_sugar (s78 _ _ k1), _, rfl, Ad.sg, _, rfl, dput_n (s78 _ _ ksg) (by omega), _, _, rfl, _, rfl, Ad.m, _, rfl, g_dry (by rw [upd_ne aa3]; exact s78 _ _ k1), _, rfl, Ad.dr, _, rfl, dput_n (by rw [upd_ne (Ne.symm e2')]; exact s78 _ _ kdr) (by omega), rfl, ?_⟩
    have gsg : g ≠ Ad.sg := fun z => by rw [z, hsg] at ng; cases ng
    have gdr : g ≠ Ad.dr := fun z => by rw [z, hdr] at ng; cases ng
    have o8 : Off K (fun a => a = Ad.sg ∨ a = Ad.dr) H8 (upd (upd H8 Ad.sg (.dK (byK kN (addK nms x) (set1 (fun x => .ref (Ad.s x)) x (.ref g))))) Ad.dr (.dK (byK kN (addK nms x) (set1 (fun x => .bl (st x).cur) x (.bl false))))) := (Off.refl.write (.inl rfl) (s78 _ _ ksg) .dK).write (.inr rfl) (s78 _ _ kdr) .dK
    have oF : Off K (fun a => a = Ad.sg ∨ a = Ad.dr ∨ a = Ad.lv) H (upd (upd H8 Ad.sg (.dK (byK kN (addK nms x) (set1 (fun x => .ref (Ad.s x)) x (.ref g))))) Ad.dr (.dK (byK kN (addK nms x) (set1 (fun x => .bl (st x).cur) x (.bl false))))) := (o7.seq (.same s78)).seq (o8.mono fun _ z => z.elim .inl fun z => .inr (.inl z))
    have tkF : TK K H2 (upd (upd H8 Ad.sg (.dK (byK kN (addK nms x) (set1 (fun x => .ref (Ad.s x)) x (.ref g))))) Ad.dr (.dK (byK kN (addK nms x) (set1 (fun x => .bl (st x).cur) x (.bl false))))) := (((TK.same (s3.trans (s4.trans (s5.trans s6)))).trans o67.tk).trans (TK.same s78)).trans o8.tk
    have tk6 : TK K H6 (upd (upd H8 Ad.sg (.dK (byK kN (addK nms x) (set1 (fun x => .ref (Ad.s x)) x (.ref g))))) Ad.dr (.dK (byK kN (addK nms x) (set1 (fun x => .bl (st x).cur) x (.bl false))))) := (o67.tk.trans (TK.same s78)).trans o8.tk
    have hs' : FrQ K H2 sa (st x).s := by rw [F2.sum]; exact j2
    have dl : Dtu K (upd (upd H8 Ad.sg (.dK (byK kN (addK nms x) (set1 (fun x => .ref (Ad.s x)) x (.ref g))))) Ad.dr (.dK (byK kN (addK nms x) (set1 (fun x => .bl (st x).cur) x (.bl false))))) 5 (.ref cp) (loafD x (st x)) := DtuAll.tup (.cons (.str _ _ lay) (.cons ((hs'.tk tkF).dtu 2) (.cons ((hd3.tk (TK.same (s4.trans (s5.trans s6)))).tk tk6) .nil))) (tk6 _ _ h6) (by show 3 ≤ 100000; decide)
    refine ⟨_, rfl, w4 hx hk hcur lo g _ ng (hl0.anew hx (m := (st x).cleared) ng oF ?_ ⟨fun _ => .non, by rw [upd_ne gdr, upd_ne gsg]; exact g8, fun k hk2 => absurd hk2 List.not_mem_nil⟩ ?_ ⟨_, by rw [upd_ne (fun z => nlv hdr z.symm), upd_ne (fun z => nlv hsg z.symm)]; exact s78 _ _ l7, by rw [List.length_append, List.length_singleton]; omega, (((l3.tk (TK.same s06)).tk tk6).snoc dl)⟩ rfl rfl (wz hx hcur).symm) (DtuAll.tup (.cons ((hs'.tk tkF).dtu 2) (.cons ((hd3.tk (TK.same (s4.trans (s5.trans s6)))).tk tk6) .nil)) (tk6 _ _ (Same.tup (s5.trans s6) hloaf)) (by show 2 ≤ 100000; decide)) (oF.mono fun b z => ?_)⟩
    · rw [upd_ne e2', upd_same, addK_in hx]
      congr 2
      refine byK_congr fun y _ => ?_
      by_cases e : y = x
      · rw [e, set1_same, set1_same]
      · rw [set1_ne e, set1_ne e]
    · rw [upd_same, addK_in hx]
      congr 2
      refine byK_congr fun y _ => ?_
      by_cases e : y = x
      · rw [e, set1_same, set1_same] <;> rfl
      · rw [set1_ne e, set1_ne e]
    · rcases z with z | z | z
      · exact .inr (.inl z)
      · exact .inr (.inr (.inr (.inl z)))
      · exact .inr (.inr (.inr (.inr (.inl z))))

end
end KR
namespace KR
open PySem PySem.Spec PyProof.Rows L2
section
variable {P : Program} {w : World} {K : PySem.W.Frag} {mg : Str → Option Value} {base : Heap}
/-- a juice with sugar -/
structure JuOk (s w : Rat) : Prop where
  s0 : 0 < s
  s1 : s ≤ 1000000
  w0 : 0 ≤ w
  w1 : w ≤ 1000000
  sd : Dv 960 s
  wd : Dv 413 w
theorem ok_l_juice (T : All K mg) : FnOk P w K mg base CX0 2 T.f_l_juice T.fd_l_juice ["_law_box_here", "_law_room"] (fun vs H Q _ => ∃ (p : Addr) (n : Nat) (r : Int), vs = [.ref p, .int r] ∧ 1 ≤ r ∧ r ≤ 1000000 ∧ BoxAt H p n ∧ n ≤ 999980000 ∧ ∀ a s w H', JuQ K H' a s w → JuOk s w → (s ≤ 2 * (r : Rat)) → (w ≤ 2 * (r : Rat)) → BoxAt H' p (n + 6) → Fr p H H' → Q (.ref a) H') := by
  refine T.d_l_juice.fn.ok sc_l_juice (fun vs H Q E h => ?_) (fun cdv A outer s H vs Q E hr h => ?_)
  · obtain ⟨p, n, r, rfl, _⟩ := h
    rfl
  · obtain ⟨p, n, r, rfl, r1, r9, hB, hn, q⟩ := h
    refine ⟨_, (pss_cons (ps_set (i := 2) sc_l_juice.nd rfl (by first | exact Or.inl rfl | exact Or.inr rfl) (pe_op op_mulX (pe_ix (ixL (K := K) rfl) (pe_lstI (pa_cons pe_int (pa_cons pe_int (pa_cons pe_int (pa_cons pe_int (pa_cons pe_int pa_nil)))))) (pe_call (ok_l_take T) hr (by rfl) T.d_l_take.mg T.d_l_take.fn.kp T.d_l_take.b .nil pass0 (pa_cons (pv 0) (pa_cons pe_int pa_nil))) (fun _ _ => rfl)) (pe_ix (ixL (K := K) rfl) (pe_lstI (pa_cons pe_int (pa_cons pe_int (pa_cons pe_int pa_nil)))) (pe_call (ok_l_take T) hr (by rfl) T.d_l_take.mg T.d_l_take.fn.kp T.d_l_take.b .nil pass0 (pa_cons (pv 0) (pa_cons pe_int pa_nil))) (fun _ _ => rfl))))
      (pss_cons (ps_par (i := 3) (j := 4) (by rfl) sc_l_juice.nd rfl rfl (by decide) rfl rfl (pa_cons (pe_call (ok_l_low T) hr (by rfl) T.d_l_low.mg T.d_l_low.fn.kp T.d_l_low.b .nil pass0 (pa_cons (pe_op op_add pe_int (pe_call (ok_l_take T) hr (by rfl) T.d_l_take.mg T.d_l_take.fn.kp T.d_l_take.b .nil pass0 (pa_cons (pv 0) (pa_cons (pe_callB (call_min2 rfl) (by rfl) T.b_min (by decide +kernel) (pa_cons (pe_op op_pow pe_int pe_int) (pa_cons (pe_op op_mulX pe_int (pv 1)) pa_nil))) pa_nil)))) (pa_cons (pv 2) pa_nil))) (pa_cons (pe_callB (call_min2 rfl) (by rfl) T.b_min (by decide +kernel) (pa_cons (pe_op op_pow pe_int pe_int) (pa_cons (pe_op op_mulX (pv 1) (pe_call (ok_l_take T) hr (by rfl) T.d_l_take.mg T.d_l_take.fn.kp T.d_l_take.b .nil pass0 (pa_cons (pv 0) (pa_cons pe_int pa_nil)))) pa_nil))) pa_nil)) (by rfl))
      (pss_one (ps_ret (pe_tupI (pa_cons (pv 3) (pa_cons (pe_call (ok_l_low T) hr (by rfl) T.d_l_low.mg T.d_l_low.fn.kp T.d_l_low.b .nil pass0 (pa_cons (pe_call (ok_l_take T) hr (by rfl) T.d_l_take.mg T.d_l_take.fn.kp T.d_l_take.b .nil pass0 (pa_cons (pv 0) (pa_cons (pe_op op_add pe_int (pv 4)) pa_nil))) (pa_cons (pe_ix (ixL (K := K) rfl) (pe_lstI (pa_cons pe_int (pa_cons pe_int (pa_cons pe_int pa_nil)))) (pe_call (ok_l_take T) hr (by rfl) T.d_l_take.mg T.d_l_take.fn.kp T.d_l_take.b .nil pass0 (pa_cons (pv 0) (pa_cons pe_int pa_nil))) (fun _ _ => rfl)) pa_nil))) pa_nil))))))), ?_⟩
    refine ⟨rfl, fun l1 H1 s1 n1 h1 => ?_⟩
    have ne1 : l1 ≠ p := hB.new n1
    refine ⟨_, rfl, p, 5, n, rfl, hB.same s1, by omega, by decide, by decide, fun i1 H2 a0 a1 B2 F2 => ?_⟩
    obtain ⟨m1, em1, c1⟩ : ∃ m : Int, atI ([.int 1, .int 2, .int 3, .int 12, .int 60] : List V) i1 = some (.int m) ∧ (m = 1 ∨ m = 2 ∨ m = 3 ∨ m = 12 ∨ m = 60) := by
      have w : i1 = 0 ∨ i1 = 1 ∨ i1 = 2 ∨ i1 = 3 ∨ i1 = 4 := by omega
      rcases w with e | e | e | e | e <;> subst e <;> exact ⟨_, rfl, by simp⟩
    refine ⟨l1, _, i1, _, rfl, rfl, SqL.of (F2 _ _ ne1 h1), em1, rfl, fun l2 H3 s3 n3 h3 => ?_⟩
    have ne2 : l2 ≠ p := B2.new n3
    refine ⟨_, rfl, p, 3, n + 1, rfl, B2.same s3, by omega, by decide, by decide, fun i2 H4 b0 b1 B4 F4 => ?_⟩
    obtain ⟨m2, em2, c2⟩ : ∃ m : Int, atI ([.int 1, .int 4, .int 16] : List V) i2 = some (.int m) ∧ (m = 1 ∨ m = 4 ∨ m = 16) := by
      have w : i2 = 0 ∨ i2 = 1 ∨ i2 = 2 := by omega
      rcases w with e | e | e <;> subst e <;> exact ⟨_, rfl, by simp⟩
    have bb : 1 ≤ m1 * m2 ∧ m1 * m2 ≤ 960 ∧ (m1 * m2).natAbs ∣ 960 := by
      rcases c1 with e | e | e | e | e <;> rcases c2 with e' | e' | e' <;> subst e e' <;> decide
    obtain ⟨hb1, hb9, hbd⟩ := bb
    refine ⟨l2, _, i2, _, rfl, rfl, SqL.of (F4 _ _ ne2 h3), em2, _, _, rfl, rfl, mulL (by omega), ?_⟩
    have F14 := ((Fr.of s1).trans F2).trans ((Fr.of s3).trans F4)
    refine ⟨_, rfl, _, _, rfl, rfl, ⟨by decide, by decide, by decide⟩, _, rfl, _, _, rfl, rfl, mulL (by omega), _, _, rfl, ?_⟩
    obtain ⟨M, eM, hM1, hM2, hM3⟩ : ∃ M : Int, (if 2 * r < 10 ^ (6 : Int).toNat then 2 * r else 10 ^ (6 : Int).toNat) = M ∧ 1 ≤ M ∧ M ≤ 1000000 ∧ M ≤ 2 * r := by
      have e6 : (10 : Int) ^ (6 : Int).toNat = 1000000 := by decide
      rw [e6]
      refine ⟨_, rfl, ?_, ?_, ?_⟩ <;> split <;> omega
    refine ⟨p, M, n + 2, by rw [← eM] <;> rfl, B4, by omega, by omega, by omega, fun z H5 z0 z1 B5 F5 => ?_⟩
    refine ⟨_, _, rfl, rfl, _, rfl, _, _, rfl, by omega, lt_up (show (1 + z).natAbs < 2 ^ 64 by omega) (by decide), lt_up (show (m1 * m2).natAbs < 2 ^ 64 by omega) (by decide), fun sa H6 s6 n6 hs => ?_⟩
    have B6 := B5.same s6
    refine ⟨_, _, rfl, rfl, ⟨by decide, by decide, by decide⟩, _, rfl, _, rfl, p, 3, n + 3, rfl, B6, by omega, by decide, by decide, fun y H7 y0 y1 B7 F7 => ?_⟩
    refine ⟨_, _, rfl, rfl, mulL (by omega), _, _, rfl, _, _, rfl, ?_⟩
    obtain ⟨N, eN, hN1, hN2, hN3⟩ : ∃ N : Int, (if r * y < 10 ^ (6 : Int).toNat then r * y else 10 ^ (6 : Int).toNat) = N ∧ 0 ≤ N ∧ N ≤ 1000000 ∧ N ≤ 2 * r := by
      have e6 : (10 : Int) ^ (6 : Int).toNat = 1000000 := by decide
      have y2 : y = 0 ∨ y = 1 ∨ y = 2 := by omega
      rw [e6]
      refine ⟨_, rfl, ?_, ?_, ?_⟩ <;> rcases y2 with e | e | e <;> subst e <;> split <;> omega
    rw [eN]
    refine ⟨_, rfl, _, rfl, _, rfl, _, _, rfl, rfl, p, 1 + N, n + 4, rfl, B7, by omega, by omega, by omega, fun u H8 u0 u1 B8 F8 => ?_⟩
    refine ⟨rfl, fun l3 H9 s9 n9 h9 => ?_⟩
    have ne3 : l3 ≠ p := B8.new n9
    refine ⟨_, rfl, p, 3, n + 5, rfl, B8.same s9, by omega, by decide, by decide, fun i3 Ha d0 d1 Ba Fa => ?_⟩
    obtain ⟨m3, em3, c3⟩ : ∃ m : Int, atI ([.int 1, .int 7, .int 59] : List V) i3 = some (.int m) ∧ (m = 1 ∨ m = 7 ∨ m = 59) := by
      have w : i3 = 0 ∨ i3 = 1 ∨ i3 = 2 := by omega
      rcases w with e | e | e <;> subst e <;> exact ⟨_, rfl, by simp⟩
    have cd : 1 ≤ m3 ∧ m3 ≤ 59 ∧ m3.natAbs ∣ 413 := by rcases c3 with e | e | e <;> subst e <;> decide
    obtain ⟨c4, c5, c6⟩ := cd
    refine ⟨l3, _, i3, _, rfl, rfl, SqL.of (Fa _ _ ne3 h9), em3, _, _, rfl, by omega, lt_up (show u.natAbs < 2 ^ 64 by omega) (by decide), lt_up (show m3.natAbs < 2 ^ 64 by omega) (by decide), fun wa Hb sb nb hw => ⟨rfl, fun ja Hc sc nc hj => ?_⟩⟩
    have F7c : Fr p H6 Hc := F7.trans (F8.trans ((Fr.of s9).trans (Fa.trans (.of (sb.trans sc)))))
    have Bc := Ba.same (sb.trans sc)
    have le1 : ∀ {t c : Int}, 0 ≤ t → 1 ≤ c → rq t c ≤ (t : Rat) := fun {t c} h0 h1 => by
      have k1 := cast_nn h0
      have k2 := cast_pos (show 0 < c by omega)
      have k3 := Rat.intCast_le_intCast.mpr h1
      unfold rq
      refine div_le k2 ?_
      have k4 := Rat.mul_le_mul_of_nonneg_left k3 k1
      have k5 : ((1 : Int) : Rat) = 1 := rfl
      rw [k5, Rat.mul_one] at k4
      exact k4
    have two : 2 * (r : Rat) = ((2 * r : Int) : Rat) := by rw [Rat.intCast_mul] <;> rfl
    refine q ja (rq (1 + z) (m1 * m2)) (rq u m3) Hc ⟨sa, wa, SqT.of hj, hs.fr B6 F7c, hw.same sc⟩ ⟨rq_pos (by omega) (by omega), Rat.le_trans (le1 (by omega) hb1) (Rat.intCast_le_intCast.mpr (show 1 + z ≤ 1000000 by omega)), rq_nn u0 (by omega), Rat.le_trans (le1 u0 c4) (Rat.intCast_le_intCast.mpr (show u ≤ 1000000 by omega)), (Dv.rq (by omega)).up hbd, (Dv.rq (by omega)).up c6⟩ ?_ ?_ Bc ((F14.trans (F5.trans (.of s6))).trans F7c)
    · rw [two]
      exact Rat.le_trans (le1 (by omega) hb1) (Rat.intCast_le_intCast.mpr (by omega))
    · rw [two]
      exact Rat.le_trans (le1 u0 c4) (Rat.intCast_le_intCast.mpr (by omega))

end
end KR
namespace KR
open PySem PySem.Spec PyProof.Rows L2
section
variable {P : Program} {w : World} {K : PySem.W.Frag} {mg : Str → Option Value} {base : Heap}
def sp_m_lshare (K : PySem.W.Frag) : Sp := fun vs H Q _ => ∃ (p : Addr) (n : Nat), vs = [.ref p] ∧ BoxAt H p n ∧ n ≤ 999999000 ∧ ∀ (a : Addr) (q : Rat) (H' : Hp), ShOk q → 0 < q → q ≤ 1 → FrQ K H' a q → BoxAt H' p (n + 2) → Fr p H H' → Q (.ref a) H'
theorem ok_l_share (T : All K mg) : FnOk P w K mg base CX0 2 T.f_l_share T.fd_l_share ["_law_box_here"] (sp_m_lshare K) := by
  refine T.d_l_share.fn.ok sc_l_share (fun vs H Q E h => ?_) (fun cdv A outer s H vs Q E hr h => ?_)
  · obtain ⟨p, n, rfl, _⟩ := h
    rfl
  · obtain ⟨p, n, rfl, hB, hn, q⟩ := h
    refine ⟨_, (pss_cons (ps_set (i := 1) sc_l_share.nd rfl (by first | exact Or.inl rfl | exact Or.inr rfl) (pe_op op_add pe_int (pe_call (ok_l_take T) hr (by rfl) T.d_l_take.mg T.d_l_take.fn.kp T.d_l_take.b .nil pass0 (pa_cons (pv 0) (pa_cons pe_int pa_nil)))))
      (pss_one (ps_ret (pe_call (ok_l_low T) hr (by rfl) T.d_l_low.mg T.d_l_low.fn.kp T.d_l_low.b .nil pass0 (pa_cons (pe_op op_add pe_int (pe_call (ok_l_take T) hr (by rfl) T.d_l_take.mg T.d_l_take.fn.kp T.d_l_take.b .nil pass0 (pa_cons (pv 0) (pa_cons (pv 1) pa_nil)))) (pa_cons (pv 1) pa_nil)))))), ?_⟩
    refine ⟨_, rfl, p, 12, n, rfl, hB, by omega, by decide, by decide, fun z H1 z0 z1 B1 F1 => ?_⟩
    refine ⟨_, _, rfl, rfl, ?_⟩
    refine ⟨_, rfl, _, rfl, p, _, n + 1, rfl, B1, by omega, by omega, by omega, fun y H2 y0 y1 B2 F2 => ?_⟩
    refine ⟨_, _, rfl, rfl, _, rfl, ?_⟩
    refine ⟨_, _, rfl, by omega, lt_up (show (1 + y).natAbs < 2 ^ 10 by omega) (by decide), lt_up (show (1 + z).natAbs < 2 ^ 10 by omega) (by decide), fun a H3 s3 n3 h3 => ?_⟩
    have ok : ShOk (rq (1 + y) (1 + z)) := by
      refine ⟨num_pos.mpr (rq_pos (by omega) (by omega)), le_one_of (rq_le_one (by omega) (by omega)), ?_⟩
      have e := rq_low (t := 1 + y) (b := 1 + z) (by omega)
      have e2 : ((1 + z).natAbs : Int) / (Nat.gcd (1 + y).natAbs (1 + z).natAbs : Nat) = ((rq (1 + y) (1 + z)).den : Int) := congrArg Prod.snd e
      rw [← e2]
      have := Int.ediv_le_self ((Nat.gcd (1 + y).natAbs (1 + z).natAbs : Nat) : Int) (show (0 : Int) ≤ ((1 + z).natAbs : Int) by omega)
      omega
    exact q a _ _ ok (rq_pos (by omega) (by omega)) (rq_le_one (by omega) (by omega)) h3 (B2.same s3) (F1.trans (F2.trans (.of s3)))

end
end KR
namespace KR
open PySem PySem.Spec PyProof.Rows L2
section
variable {P : Program} {w : World} {K : PySem.W.Frag} {mg : Str → Option Value} {base : Heap}
def sp_m_more (K : PySem.W.Frag) : Sp := fun vs H Q _ => ∃ (x y : Addr) (p q : Rat), vs = [.ref x, .ref y] ∧ FrQ K H x p ∧ FrQ K H y q ∧ Big p ∧ Big q ∧ Q (.bl (decide (q < p))) H
theorem ok_l_is_more (T : All K mg) : FnOk P w K mg base CX0 1 T.f_l_is_more T.fd_l_is_more ["_law_one", "_law_other"] (sp_m_more K) := by
  refine T.d_l_is_more.fn.ok sc_l_is_more (fun vs H Q E h => ?_) (fun cdv A outer s H vs Q E hr h => ?_)
  · obtain ⟨x, y, p, q, rfl, _⟩ := h
    rfl
  · obtain ⟨x, y, p, q, rfl, hx, hy, b1, b2, w⟩ := h
    refine ⟨_, (pss_one (ps_ret (pe_cmpR op_gt (pe_op op_mulX (pe_ix (ixT (K := K) rfl) (pv 0) pe_int (fun _ _ => rfl)) (pe_ix (ixT (K := K) rfl) (pv 1) pe_int (fun _ _ => rfl))) (pe_op op_mulX (pe_ix (ixT (K := K) rfl) (pv 1) pe_int (fun _ _ => rfl)) (pe_ix (ixT (K := K) rfl) (pv 0) pe_int (fun _ _ => rfl))) (nomark _)))), ?_⟩
    have hx' : SqT K H x [.int p.num, .int (p.den : Int)] := hx
    have hy' : SqT K H y [.int q.num, .int (q.den : Int)] := hy
    obtain ⟨a1, a2⟩ := b1
    obtain ⟨c1, c2⟩ := b2
    refine ⟨_, rfl, x, _, 0, _, rfl, rfl, hx', at0, _, rfl, y, _, 1, _, rfl, rfl, hy', at1, _, _, rfl, rfl, mulZ a1 c2 (by omega), ?_⟩
    refine ⟨_, rfl, y, _, 0, _, rfl, rfl, hy', at0, _, rfl, x, _, 1, _, rfl, rfl, hx', at1, _, _, rfl, rfl, mulZ c1 a2 (by omega), _, _, rfl, rfl, ?_⟩
    have e : decide (q.num * (p.den : Int) < p.num * (q.den : Int)) = decide (q < p) := by
      rw [decide_eq_decide]
      exact lt_cross q p
    show Q (.bl (decide (q.num * (p.den : Int) < p.num * (q.den : Int)))) H
    rw [e]
    exact w

end
end KR
namespace KR
open PySem PySem.Spec PyProof.Rows L2
section
variable {P : Program} {w : World} {K : PySem.W.Frag} {mg : Str → Option Value} {base : Heap}
theorem fun_of {α : Type} [DecidableEq α] : ∀ {l : List α} {gs : List Addr}, l.Nodup → gs.length = l.length → ∃ f : α → Addr, gs = l.map f
  | [], [], _, _ => ⟨fun _ => 0, rfl⟩
  | x :: r, g :: t, nd, h => by
    rw [List.nodup_cons] at nd
    obtain ⟨f, e⟩ := fun_of (l := r) (gs := t) nd.2 (by simpa using h)
    refine ⟨set1 f x g, ?_⟩
    rw [List.map_cons, set1_same, e]
    congr 1
    exact List.map_congr_left fun y hy => (set1_ne (fun z : y = x => nd.1 (by rw [← z]; exact hy))).symm
  | [], _ :: _, _, h => by simp at h
  | _ :: _, [], _, h => by simp at h
theorem paired_ix {α β : Type} {R : α → β → Prop} : ∀ {l : List α} {m : List β}, l.length = m.length → (∀ (i : Nat) (a : α) (b : β), l[i]? = some a → m[i]? = some b → R a b) → Paired R l m
  | [], [], _, _ => .nil
  | a :: l, b :: m, h, f => .cons (f 0 a b rfl rfl) (paired_ix (by simpa using h) fun i x y h1 h2 => f (i + 1) x y h1 h2)
  | [], _ :: _, h, _ => by simp at h
  | _ :: _, [], h, _ => by simp at h
theorem merge_byK : ∀ {l2 l : List Str} {f f2 : Str → V}, (l ++ l2).Nodup → (∀ y ∈ l, f y = f2 y) → mergeK (byK kN l f) (byK kN l2 f2) = byK kN (l ++ l2) f2
  | [], l, f, f2, _, h => by
    rw [List.append_nil]
    exact byK_congr h
  | x :: r, l, f, f2, nd, h => by
    have nx : x ∉ l := fun hx => by
      rw [List.nodup_append] at nd
      exact nd.2.2 x hx x List.mem_cons_self rfl
    show mergeK (putK (byK kN l f) (kN x) (f2 x)) (byK kN r f2) = _
    rw [byK_put kN_inj]
    unfold addK
    rw [if_neg nx, merge_byK (l2 := r) (l := l ++ [x]) (by rw [List.append_assoc]; exact nd) fun y hy => ?_, List.append_assoc]
    · rfl
    · by_cases e : y = x
      · rw [e, set1_same]
      · rw [set1_ne e]
        exact h y ((List.mem_append.mp hy).resolve_right fun z => e (List.mem_singleton.mp z))
def sp_copied (K : PySem.W.Frag) : Sp := fun vs H Q _ => ∃ (A : LAd) (nms : List Str) (st : Str → Mo) (v1 v2 : Rat) (lds : List PyData), vs = [.ref A.m] ∧ LawAt K H A nms st v1 v2 lds ∧ nms.Nodup ∧
  ∀ (A' : LAd) H', A'.o = true → Same H H' → LawAt K H' A' nms st v1 v2 lds → (∀ a, A'.R nms a → H a = none) → H A'.rm = none → H A'.dp = none → (∃ kvs, H' A'.rm = some (.dK kvs)) → Q (.ref A'.m) H'
theorem ok_l_copied (T : All K mg) : FnOk P w K mg base CX0 1 T.f_l_copied T.fd_l_copied ["_law_m"] (sp_copied K) := by
  refine T.d_l_copied.fn.ok sc_l_copied (fun vs H Q E h => ?_) (fun cdv A outer s H vs Q E hr h => ?_)
  · obtain ⟨A, nms, st, v1, v2, lds, rfl, _⟩ := h
    rfl
  · obtain ⟨Ad, nms, st, v1, v2, lds, rfl, hl, ndn, q⟩ := h
    refine ⟨_, (pss_cons (ps_set (i := 1) sc_l_copied.nd rfl (by first | exact Or.inl rfl | exact Or.inr rfl) (pe_callTy (call_dictP rfl) (by rfl) T.b_dict (by decide +kernel) (pa_cons (pe_lc (own := [("_law_word", 2)]) (g := gName 2) (tt := tYes) (by rfl) sc_l_copied.nd (pi_tupK (K := K) rfl (pe_tupI (pa_cons pe_str (pa_cons pe_str (pa_cons pe_str (pa_cons pe_str pa_nil)))))) (blkOk_by (own := [("_law_word", 2)]) (N := ["_law_m", "_law_found", "_law_word", "_law_name"]) (sc := defScope s_l_copied) (by decide +kernel)) (fun _ _ _ _ _ => (pg_name (i := 2) sc_l_copied.nd rfl (by first | exact Or.inl rfl | exact Or.inr rfl))) (fun _ _ _ _ _ => pts_nil) (fun _ _ _ _ _ => (pe_tupI (pa_cons (pv 2) (pa_cons (pe_callTy call_dictD (by rfl) T.b_dict (by decide +kernel) (pa_cons (pe_dget (hu_of hr) (pv 0) (pv 2) (fun _ _ => rfl)) pa_nil)) pa_nil))))) pa_nil)))
      (pss_cons (ps_asg (pe_callTy (call_dictP rfl) (by rfl) T.b_dict (by decide +kernel) (pa_cons (pe_lock (pe_lc (own := [("_law_name", 3)]) (g := gName 3) (tt := tYes) (by rfl) sc_l_copied.nd (pi_keys (pe_dget (hu_of hr) (pv 0) pe_str (fun _ _ => rfl))) (blkOk_by (own := [("_law_name", 3)]) (N := ["_law_m", "_law_found", "_law_word", "_law_name"]) (sc := defScope s_l_copied) (by decide +kernel)) (fun _ _ _ _ _ => (pg_name (i := 3) sc_l_copied.nd rfl (by first | exact Or.inl rfl | exact Or.inr rfl))) (fun _ _ _ _ _ => pts_nil) (fun _ _ _ _ _ => (pe_tupI (pa_cons (pv 3) (pa_cons (pe_callTy call_dictD (by rfl) T.b_dict (by decide +kernel) (pa_cons (pe_dget (hu_of hr) (pe_dget (hu_of hr) (pv 0) pe_str (fun _ _ => rfl)) (pv 3) (fun _ _ => rfl)) pa_nil)) pa_nil)))))) pa_nil)) (pg_sub (pv 1) pe_str (set_dict (hu_of hr))))
      (pss_cons (ps_asg (pe_tupI (pa_cons (pe_dget (hu_of hr) (pv 0) pe_str (fun _ _ => rfl)) (pa_cons (pe_callTy (listI (K := K) rfl) (by rfl) T.b_list (by decide +kernel) (pa_cons (pe_dget (hu_of hr) (pv 0) pe_str (fun _ _ => rfl)) pa_nil)) pa_nil))) (pg_tupK (K := K) rfl rfl (pgs_cons (pg_sub (pv 1) pe_str (set_dict (hu_of hr))) (pgs_cons (pg_sub (pv 1) pe_str (set_dict (hu_of hr))) pgs_nil))))
      (pss_one (ps_ret (pv 1)))))), ?_⟩
    have hl0 := hl
    obtain ⟨⟨vv, h1, h2⟩, ⟨fr, hrm, hrm2⟩, ⟨fd, hdp, hdp2⟩, hsg, hsx, ⟨fw, hw1, hw2⟩, hdr, ⟨lvs, hv1, hv2, hv3⟩, si, nd, sn, ln⟩ := hl
    let ws : List Str := ["room", "drip", "water", "dry"]
    let cs : List (List (Key × V)) := [byK kN nms fr, byK kN nms fd, byK kN nms fw, byK kN nms fun x => .bl (st x).cur]
    refine ⟨rfl, fun tt H1 s1 n1 e1 => ⟨tt, rfl, ⟨_, SqT.of e1⟩, fun D hD => ?_⟩⟩
    have Dt : tt ≠ D := ne_of_none e1 hD
    refine lc_tup (K := K) (a := tt) (xs := [.str "room", .str "drip", .str "water", .str "dry"]) (fun i H' => Same H1 H' ∧ ∃ ts ps : List Addr, ts.length = i ∧ ps.length = i ∧ H' D = some (.lst (ts.map V.ref)) ∧ (∀ (k : Nat) (t p : Addr) (wd : Str) (c : List (Key × V)), ts[k]? = some t → ps[k]? = some p → ws[k]? = some wd → cs[k]? = some c → SqT K H' t [.str wd, .ref p] ∧ H' p = some (.dK c)) ∧ ps.Nodup ∧ ∀ p ∈ ps, H1 p = none ∧ p ≠ D ∧ ∃ o, H' p = some o)
      ⟨same_new hD, [], [], rfl, rfl, upd_same, fun k t p wd c h => by simp at h, List.nodup_nil, fun p h => absurd h List.not_mem_nil⟩ (fun i H' _ z => Same.tup z.1 (SqT.of e1)) (fun i x H' hi z => ?_) (fun H'' z => ?_)
    · obtain ⟨sm, ts, ps, lt, lp, hDl, al, ndp, fresh⟩ := z
      obtain ⟨wd, c, ai, rfl, hwd, hc, dg, rd⟩ : ∃ (wd : Str) (c : List (Key × V)) (ai : Addr), x = .str wd ∧ ws[i]? = some wd ∧ cs[i]? = some c ∧ DGet H' Ad.m (.str wd) (some (.ref ai)) ∧ Rd H' ai (.dK c) := by
        have s2 := s1.trans sm
        have m2 := s2 _ _ h1
        match i, hi with
        | 0, hi => cases hi; exact ⟨_, _, _, rfl, rfl, rfl, g_room m2, Same.rd s2 hrm⟩
        | 1, hi => cases hi; exact ⟨_, _, _, rfl, rfl, rfl, g_drip m2, Same.rd s2 hdp⟩
        | 2, hi => cases hi; exact ⟨_, _, _, rfl, rfl, rfl, g_water m2, .inl (s2 _ _ hw1)⟩
        | 3, hi => cases hi; exact ⟨_, _, _, rfl, rfl, rfl, g_dry m2, .inl (s2 _ _ hdr)⟩
        | i + 4, hi => simp at hi
      have i4 : i < 4 := (List.getElem?_eq_some_iff.mp hwd).1
      refine ⟨rfl, yesT ?_⟩
      refine ⟨_, rfl, _, rfl, _, rfl, Ad.m, _, rfl, dg, ai, c, rfl, rd, fun p np => ⟨rfl, fun t H4 s4 n4 e4 => ?_⟩⟩
      have s3 : Same H' (upd H' p (.dK c)) := same_new np
      have s34 := s3.trans s4
      have hp4 : H4 p = some (.dK c) := s4 _ _ upd_same
      have pD : p ≠ D := fun z => by rw [z, hDl] at np; cases np
      have np1 : H1 p = none := by
        cases e : H1 p with
        | none => rfl
        | some o => rw [sm _ _ e] at np; cases np
      have keep : ∀ {a : Addr} {o : HO}, a ≠ D → H4 a = some o → (upd H4 D (.lst (ts.map V.ref ++ [V.ref t]))) a = some o := fun n e => by rw [upd_ne n]; exact e
      have tkk : TK K H4 (upd H4 D (.lst (ts.map V.ref ++ [V.ref t]))) := TK.upd (s34 _ _ hDl) (fun _ y => by cases y) (fun _ _ y => by cases y)
      have pnew : p ∉ ps := fun h => by
        obtain ⟨_, _, o, e⟩ := fresh p h
        rw [np] at e; cases e
      refine ⟨_, s34 _ _ hDl, by rw [List.length_map]; exact small' (by omega), Same.put (sm.trans s34) hD, ts ++ [t], ps ++ [p], by rw [List.length_append, lt] <;> rfl, by rw [List.length_append, lp] <;> rfl, by rw [upd_same, List.map_append] <;> rfl, fun g t' p' wd' c' g1 g2 g3 g4 => ?_, ?_, fun p' hp' => ?_⟩
      · rcases Nat.lt_or_ge g ts.length with l | l
        · rw [List.getElem?_append_left l] at g1
          rw [List.getElem?_append_left (by omega)] at g2
          obtain ⟨k1, k2⟩ := al g t' p' wd' c' g1 g2 g3 g4
          have pp := fresh p' (List.mem_of_getElem? g2)
          exact ⟨tkk _ _ (Same.tup s34 k1), keep pp.2.1 (s34 _ _ k2)⟩
        · have g0 : g = ts.length := by
            have := (List.getElem?_eq_some_iff.mp g1).1
            rw [List.length_append, List.length_singleton] at this
            omega
          subst g0
          rw [List.getElem?_append_right (Nat.le_refl _), Nat.sub_self] at g1
          rw [List.getElem?_append_right (by omega), show ts.length - ps.length = 0 by omega] at g2
          cases g1
          cases g2
          rw [lt] at g3 g4
          rw [hwd] at g3
          rw [hc] at g4
          cases g3
          cases g4
          exact ⟨tkk _ _ (SqT.of e4), keep pD hp4⟩
      · rw [List.nodup_append]
        exact ⟨ndp, List.nodup_cons.mpr ⟨List.not_mem_nil, List.nodup_nil⟩, fun a ha b hb e => pnew (by rw [← List.mem_singleton.mp hb, ← e]; exact ha)⟩
      · rcases List.mem_append.mp hp' with h | h
        · obtain ⟨f1, f2, o, f3⟩ := fresh p' h
          exact ⟨f1, f2, o, keep f2 (s34 _ _ f3)⟩
        · rw [List.mem_singleton.mp h]
          exact ⟨np1, pD, _, keep pD hp4⟩
    obtain ⟨sm, ts, ps, lt, lp, hDl, al, ndp, fresh⟩ := z
    obtain ⟨t0, t1, t2, t3, rfl⟩ : ∃ a b c d, ts = [a, b, c, d] := by
      match ts, lt with
      | [a, b, c, d], _ => exact ⟨a, b, c, d, rfl⟩
    obtain ⟨p0, p1, p2, p3, rfl⟩ : ∃ a b c d, ps = [a, b, c, d] := by
      match ps, lp with
      | [a, b, c, d], _ => exact ⟨a, b, c, d, rfl⟩
    obtain ⟨u0, d0⟩ := al 0 t0 p0 _ _ rfl rfl rfl rfl
    obtain ⟨u1, d1⟩ := al 1 t1 p1 _ _ rfl rfl rfl rfl
    obtain ⟨u2, d2⟩ := al 2 t2 p2 _ _ rfl rfl rfl rfl
    obtain ⟨u3, d3⟩ := al 3 t3 p3 _ _ rfl rfl rfl rfl
    have nn : ∀ p ∈ [p0, p1, p2, p3], H p = none := fun p hp => by
      cases e : H p with
      | none => rfl
      | some o =>
        have := (fresh p hp).1
        rw [s1 _ _ e] at this
        cases this
    clear al lt lp fresh
    refine ⟨D, [t0, t1, t2, t3], [(kN "room", .ref p0), (kN "drip", .ref p1), (kN "water", .ref p2), (kN "dry", .ref p3)], rfl, SqL.of hDl, .cons u0 (.cons u1 (.cons u2 (.cons u3 .nil))), fun m0 nm0 => ?_⟩
    have emk : mergeK [] [(kN "room", V.ref p0), (kN "drip", .ref p1), (kN "water", .ref p2), (kN "dry", .ref p3)] = [(kN "room", .ref p0), (kN "drip", .ref p1), (kN "water", .ref p2), (kN "dry", .ref p3)] := rfl
    rw [emk]
    have sJ : Same H'' (upd H'' m0 (.dK [(kN "room", .ref p0), (kN "drip", .ref p1), (kN "water", .ref p2), (kN "dry", .ref p3)])) := same_new nm0
    have hm : (upd H'' m0 (.dK [(kN "room", .ref p0), (kN "drip", .ref p1), (kN "water", .ref p2), (kN "dry", .ref p3)])) m0 = some (.dK [(kN "room", .ref p0), (kN "drip", .ref p1), (kN "water", .ref p2), (kN "dry", .ref p3)]) := upd_same
    generalize upd H'' m0 (.dK [(kN "room", .ref p0), (kN "drip", .ref p1), (kN "water", .ref p2), (kN "dry", .ref p3)]) = J at sJ hm ⊢
    have s0J : Same H J := s1.trans (sm.trans sJ)
    have nm : H m0 = none := by
      cases e : H m0 with
      | none => rfl
      | some o => rw [(s1.trans sm) _ _ e] at nm0; cases nm0
    have mps : m0 ∉ [p0, p1, p2, p3] := fun h => by
      simp only [List.mem_cons, List.not_mem_nil, or_false] at h
      rcases h with z | z | z | z
      · rw [z, d0] at nm0; cases nm0
      · rw [z, d1] at nm0; cases nm0
      · rw [z, d2] at nm0; cases nm0
      · rw [z, d3] at nm0; cases nm0
    have d0' := sJ _ _ d0
    have d1' := sJ _ _ d1
    have d2' := sJ _ _ d2
    have d3' := sJ _ _ d3
    clear d0 d1 d2 d3 u0 u1 u2 u3 nm0 hDl hD
    refine ⟨Ad.sg, _, s0J _ _ hsg, trivial, fun od => ?_⟩
    have smg : Ad.m ≠ Ad.sg := fun z => by simp only [List.nodup_cons, List.mem_cons, List.not_mem_nil, or_false, not_or] at nd; exact nd.1.2.2.1 z
    have gL : (upd J Ad.sg (.frz od (.dK (byK kN nms fun x => .ref (Ad.s x))))) Ad.sg = some (.frz od (.dK (byK kN nms fun x => .ref (Ad.s x)))) := upd_same
    have mL : (upd J Ad.sg (.frz od (.dK (byK kN nms fun x => .ref (Ad.s x))))) Ad.m = some (.dK (mkv Ad vv)) := by rw [upd_ne smg]; exact s0J _ _ h1
    have tkL : TK K H (upd J Ad.sg (.frz od (.dK (byK kN nms fun x => .ref (Ad.s x))))) := (TK.same s0J).trans (tk_lock (s0J _ _ hsg))
    have sxL : ∀ x ∈ nms, ∃ f, (upd J Ad.sg (.frz od (.dK (byK kN nms fun x => .ref (Ad.s x))))) (Ad.s x) = some (.dK (byK kI (st x).ks f)) ∧ ∀ k ∈ (st x).ks, FQ K (upd J Ad.sg (.frz od (.dK (byK kN nms fun x => .ref (Ad.s x))))) (f k) ((st x).q k * (st x).left) := fun x hx => by
      obtain ⟨f, k1, k2⟩ := hsx x hx
      exact ⟨f, by rw [upd_ne (fun z => sn x hx (by rw [z]; simp))]; exact s0J _ _ k1, fun k hk => (k2 k hk).tk tkL⟩
    generalize eL : upd J Ad.sg (.frz od (.dK (byK kN nms fun x => .ref (Ad.s x)))) = L0 at gL mL sxL tkL ⊢
    refine ⟨_, rfl, Ad.m, _, rfl, g_sugar mL, Ad.sg, od, rfl, .inl ⟨_, gL, fun D2 hD2 => ?_⟩⟩
    refine lc_keys (d := Ad.sg) (od := od) (kvs := byK kN nms fun x => .ref (Ad.s x)) (fun i H' => Same L0 H' ∧ ∃ ts gs : List Addr, ts.length = i ∧ gs.length = i ∧ H' D2 = some (.lst (ts.map V.ref)) ∧ (∀ (k : Nat) (t g : Addr) (x : Str), ts[k]? = some t → gs[k]? = some g → nms[k]? = some x → SqT K H' t [.str x, .ref g] ∧ SugAt K H' g (st x)) ∧ gs.Nodup ∧ ∀ g ∈ gs, L0 g = none ∧ g ≠ D2 ∧ ∃ o, H' g = some o)
      ⟨same_new hD2, [], [], rfl, rfl, upd_same, fun k t g x h => by simp at h, List.nodup_nil, fun g h => absurd h List.not_mem_nil⟩ (fun i H' _ z => z.1 _ _ gL) ?_ ?_
    · rintro i kk v2 H' hi ⟨sm2, ts, gs, lt, lg, hDl, al, ndg, fresh⟩
      obtain ⟨x, hx, e⟩ := byK_get hi
      cases e
      have xn := List.mem_of_getElem? hx
      obtain ⟨f, f1, f2⟩ := sxL x xn
      refine ⟨rfl, yesT ?_⟩
      refine ⟨_, rfl, _, rfl, Ad.m, _, rfl, g_sugar (sm2 _ _ mL), _, rfl, Ad.sg, _, rfl, dget_n (.inr ⟨od, sm2 _ _ gL⟩) xn, Ad.s x, _, rfl, .inl (sm2 _ _ f1), fun p np => ⟨rfl, fun t H4 s4 n4 e4 => ?_⟩⟩
      have s3 : Same H' (upd H' p (.dK (byK kI (st x).ks f))) := same_new np
      have s34 := s3.trans s4
      have hp4 : H4 p = some (.dK (byK kI (st x).ks f)) := s4 _ _ upd_same
      have pD : p ≠ D2 := fun z => by rw [z, hDl] at np; cases np
      have np1 : L0 p = none := by
        cases e : L0 p with
        | none => rfl
        | some o => rw [sm2 _ _ e] at np; cases np
      have oW : Off K (· = D2) H4 (upd H4 D2 (.lst (ts.map V.ref ++ [V.ref t]))) := .put (s34 _ _ hDl) .lst rfl
      have pnew : p ∉ gs := fun h => by
        obtain ⟨_, _, o, e⟩ := fresh p h
        rw [np] at e; cases e
      have i5 : i < nms.length := (List.getElem?_eq_some_iff.mp hx).1
      refine ⟨_, s34 _ _ hDl, by rw [List.length_map]; exact small' (by omega), Same.put (sm2.trans s34) hD2, ts ++ [t], gs ++ [p], by rw [List.length_append, lt] <;> rfl, by rw [List.length_append, lg] <;> rfl, by rw [upd_same, List.map_append] <;> rfl, fun g t' p' x' g1 g2 g3 => ?_, ?_, fun p' hp' => ?_⟩
      · rcases Nat.lt_or_ge g ts.length with l | l
        · rw [List.getElem?_append_left l] at g1
          rw [List.getElem?_append_left (by omega)] at g2
          obtain ⟨k1, k2⟩ := al g t' p' x' g1 g2 g3
          have pp := fresh p' (List.mem_of_getElem? g2)
          exact ⟨oW.tk _ _ (Same.tup s34 k1), (k2.off (R := fun _ => False) (.same s34) id).off oW pp.2.1⟩
        · have g0 : g = ts.length := by
            have := (List.getElem?_eq_some_iff.mp g1).1
            rw [List.length_append, List.length_singleton] at this
            omega
          subst g0
          rw [List.getElem?_append_right (Nat.le_refl _), Nat.sub_self] at g1
          rw [List.getElem?_append_right (by omega), show ts.length - gs.length = 0 by omega] at g2
          cases g1
          cases g2
          rw [lt, hx] at g3
          cases g3
          exact ⟨oW.tk _ _ (SqT.of e4), f, oW.dK pD hp4, fun k hk => (((f2 k hk).tk (TK.same (sm2.trans s34)))).tk oW.tk⟩
      · rw [List.nodup_append]
        exact ⟨ndg, List.nodup_cons.mpr ⟨List.not_mem_nil, List.nodup_nil⟩, fun a ha b hb e => pnew (by rw [← List.mem_singleton.mp hb, ← e]; exact ha)⟩
      · rcases List.mem_append.mp hp' with h | h
        · obtain ⟨f1, f2, o, f3⟩ := fresh p' h
          exact ⟨f1, f2, o, by rw [upd_ne f2]; exact s34 _ _ f3⟩
        · rw [List.mem_singleton.mp h]
          exact ⟨np1, pD, _, by rw [upd_ne pD]; exact hp4⟩
    · rintro H7 ⟨sm2, ts, gs, lt, lg, hDl, al, ndg, fresh⟩
      refine ⟨sm2 _ _ gL, ?_⟩
      obtain ⟨s', rfl⟩ := fun_of ndn (gs := gs) (lg.trans byK_len)
      have sU : Same J (upd H7 Ad.sg (.dK (byK kN nms fun x => .ref (Ad.s x)))) := lock_same (s0J _ _ hsg) (by rw [eL]; exact sm2)
      have L0J : ∀ {a : Addr}, L0 a = none → J a = none ∧ a ≠ Ad.sg := fun {a} h => by
        have ne : a ≠ Ad.sg := fun z => by rw [z, gL] at h; cases h
        rw [← eL, upd_ne ne] at h
        exact ⟨h, ne⟩
      have hDU : (upd H7 Ad.sg (.dK (byK kN nms fun x => .ref (Ad.s x)))) D2 = some (.lst (ts.map V.ref)) := by rw [upd_ne (L0J hD2).2]; exact hDl
      have tkU : TK K H7 (upd H7 Ad.sg (.dK (byK kN nms fun x => .ref (Ad.s x)))) := tk_unlock (sm2 _ _ gL)
      have alU : ∀ (k : Nat) (t : Addr) (x : Str), ts[k]? = some t → nms[k]? = some x → SqT K (upd H7 Ad.sg (.dK (byK kN nms fun x => .ref (Ad.s x)))) t [.str x, .ref (s' x)] ∧ SugAt K (upd H7 Ad.sg (.dK (byK kN nms fun x => .ref (Ad.s x)))) (s' x) (st x) := fun k t x a b => by
        have c : (nms.map s')[k]? = some (s' x) := by rw [List.getElem?_map, b] <;> rfl
        obtain ⟨k1, f, k2, k3⟩ := al k t (s' x) x a c b
        have g1 := (fresh (s' x) (List.mem_of_getElem? c)).1
        exact ⟨tkU _ _ k1, f, by rw [upd_ne (L0J g1).2]; exact k2, fun k hk => (k3 k hk).tk tkU⟩
      have nJ : ∀ x ∈ nms, J (s' x) = none := fun x hx => (L0J (fresh (s' x) (List.mem_map.mpr ⟨x, hx, rfl⟩)).1).1
      have inj : ∀ x ∈ nms, ∀ y ∈ nms, s' x = s' y → x = y := fun x hx y hy e => by
        obtain ⟨i, hi⟩ := List.getElem?_of_mem hx
        obtain ⟨j, hj⟩ := List.getElem?_of_mem hy
        have c1 : (nms.map s')[i]? = some (s' x) := by rw [List.getElem?_map, hi] <;> rfl
        have c2 : (nms.map s')[j]? = some (s' x) := by rw [List.getElem?_map, hj, e] <;> rfl
        have il := (List.getElem?_eq_some_iff.mp c1).1
        have ij := (List.getElem?_inj il ndg).mp (c1.trans c2.symm)
        rw [ij] at hi
        exact Option.some.inj (hi.symm.trans hj)
      generalize upd H7 Ad.sg (.dK (byK kN nms fun x => .ref (Ad.s x))) = U at sU hDU tkU alU
      clear al fresh ndg hDl sm2 gL mL sxL tkL eL
      have lts : ts.length = nms.length := lt.trans byK_len
      refine ⟨D2, ts, byK kN nms fun x => .ref (s' x), rfl, SqL.of hDU, paired_ix (by rw [byK_len]; exact lts) fun k t kv a b => ?_, fun q0 nq => ?_⟩
      · obtain ⟨x, hx, rfl⟩ := byK_get b
        exact (alU k t x a hx).1
      have emk2 : mergeK [] (byK kN nms fun x => .ref (s' x)) = byK kN nms fun x => .ref (s' x) := merge_byK (l := []) (f := fun _ => .non) ndn (fun y h => absurd h List.not_mem_nil)
      rw [emk2]
      have back : ∀ {a : Addr} {X : Hp}, Same H X → X a = none → H a = none := fun {a X} s h => by
        cases e : H a with
        | none => rfl
        | some o => rw [s _ _ e] at h; cases h
      have s0U := s0J.trans sU
      have nq0 : H q0 = none := back s0U nq
      have sq : Same U (upd U q0 (.dK (byK kN nms fun x => .ref (s' x)))) := same_new nq
      have hq : (upd U q0 (.dK (byK kN nms fun x => .ref (s' x)))) q0 = some (.dK (byK kN nms fun x => .ref (s' x))) := upd_same
      generalize upd U q0 (.dK (byK kN nms fun x => .ref (s' x))) = U1 at sq hq
      have hm1 := sq _ _ (sU _ _ hm)
      have ep : putK [(kN "room", V.ref p0), (kN "drip", .ref p1), (kN "water", .ref p2), (kN "dry", .ref p3)] (kN "sugar") (.ref q0) = [(kN "room", .ref p0), (kN "drip", .ref p1), (kN "water", .ref p2), (kN "dry", .ref p3), (kN "sugar", .ref q0)] := rfl
      refine ⟨_, rfl, m0, _, rfl, .inl ⟨_, kN "sugar", hm1, rfl, (by show 4 < sizeLine; decide), rfl⟩, ?_⟩
      rw [ep]
      have s0U1 := s0U.trans sq
      have s2 : Same H (upd U1 m0 (.dK [(kN "room", .ref p0), (kN "drip", .ref p1), (kN "water", .ref p2), (kN "dry", .ref p3), (kN "sugar", .ref q0)])) := Same.put s0U1 nm
      have hm2 : (upd U1 m0 (.dK [(kN "room", .ref p0), (kN "drip", .ref p1), (kN "water", .ref p2), (kN "dry", .ref p3), (kN "sugar", .ref q0)])) m0 = some (.dK [(kN "room", .ref p0), (kN "drip", .ref p1), (kN "water", .ref p2), (kN "dry", .ref p3), (kN "sugar", .ref q0)]) := upd_same
      have o2 : Off K (· = m0) U1 (upd U1 m0 (.dK [(kN "room", .ref p0), (kN "drip", .ref p1), (kN "water", .ref p2), (kN "dry", .ref p3), (kN "sugar", .ref q0)])) := .put hm1 .dK rfl
      generalize upd U1 m0 (.dK [(kN "room", .ref p0), (kN "drip", .ref p1), (kN "water", .ref p2), (kN "dry", .ref p3), (kN "sugar", .ref q0)]) = U2 at s2 hm2 o2
      refine ⟨_, rfl, Ad.m, _, rfl, g_vat (s2 _ _ h1), _, rfl, Ad.m, _, rfl, g_loaves (s2 _ _ h1), Ad.lv, lvs, rfl, .inl (SqL.of (s2 _ _ hv1)), fun l U3 s3 n3 e3 => ⟨rfl, fun t U4 s4 n4 e4 => ?_⟩⟩
      have s34 := s3.trans s4
      have hm4 := s34 _ _ hm2
      refine ⟨t, _, rfl, SqT.of e4, rfl, _, _, rfl, _, rfl, m0, _, rfl, .inl ⟨_, kN "vat", hm4, rfl, (by show 5 < sizeLine; decide), rfl⟩, _, _, rfl, _, rfl, m0, _, rfl, .inl ⟨_, kN "loaves", upd_same, rfl, (by show 6 < sizeLine; decide), rfl⟩, rfl, ?_⟩
      have oF : Off K (· = m0) U4 (upd (upd U4 m0 (.dK (putK [(kN "room", V.ref p0), (kN "drip", .ref p1), (kN "water", .ref p2), (kN "dry", .ref p3), (kN "sugar", .ref q0)] (kN "vat") vv))) m0 (.dK (putK (putK [(kN "room", V.ref p0), (kN "drip", .ref p1), (kN "water", .ref p2), (kN "dry", .ref p3), (kN "sugar", .ref q0)] (kN "vat") vv) (kN "loaves") (.ref l)))) := ((Off.refl (K := K) (R := (· = m0)) (H := U4)).write rfl hm4 .dK).write rfl hm4 .dK
      have hmF : (upd (upd U4 m0 (.dK (putK [(kN "room", V.ref p0), (kN "drip", .ref p1), (kN "water", .ref p2), (kN "dry", .ref p3), (kN "sugar", .ref q0)] (kN "vat") vv))) m0 (.dK (putK (putK [(kN "room", V.ref p0), (kN "drip", .ref p1), (kN "water", .ref p2), (kN "dry", .ref p3), (kN "sugar", .ref q0)] (kN "vat") vv) (kN "loaves") (.ref l)))) m0 = some (.dK (mkv ⟨m0, p0, p1, q0, p2, p3, l, s', true⟩ vv)) := upd_same
      have sF : Same H (upd (upd U4 m0 (.dK (putK [(kN "room", V.ref p0), (kN "drip", .ref p1), (kN "water", .ref p2), (kN "dry", .ref p3), (kN "sugar", .ref q0)] (kN "vat") vv))) m0 (.dK (putK (putK [(kN "room", V.ref p0), (kN "drip", .ref p1), (kN "water", .ref p2), (kN "dry", .ref p3), (kN "sugar", .ref q0)] (kN "vat") vv) (kN "loaves") (.ref l)))) := Same.put (Same.put (s2.trans s34) nm) nm
      generalize (upd (upd U4 m0 (.dK (putK [(kN "room", V.ref p0), (kN "drip", .ref p1), (kN "water", .ref p2), (kN "dry", .ref p3), (kN "sugar", .ref q0)] (kN "vat") vv))) m0 (.dK (putK (putK [(kN "room", V.ref p0), (kN "drip", .ref p1), (kN "water", .ref p2), (kN "dry", .ref p3), (kN "sugar", .ref q0)] (kN "vat") vv) (kN "loaves") (.ref l)))) = F at oF hmF sF
      have oJF : Off K (· = m0) U1 F := (o2.seq (.same s34)).seq oF
      have oUF : Off K (· = m0) U F := (Off.same sq).seq oJF
      have oJ : Off K (· = m0) J F := (Off.same sU).seq oUF
      have tF : TK K H F := .same sF
      simp only [List.mem_cons, List.not_mem_nil, or_false, not_or] at mps
      obtain ⟨b0, b1, b2, b3⟩ := mps
      simp only [List.nodup_cons, List.mem_cons, List.not_mem_nil, or_false, not_or, List.nodup_nil, and_true, not_false_iff] at ndp
      obtain ⟨⟨c1, c2, c3⟩, ⟨c4, c5⟩, c6⟩ := ndp
      have qn : ∀ {a : Addr} {o : HO}, J a = some o → q0 ≠ a := fun e z => by rw [← z] at e; rw [sU _ _ e] at nq; cases nq
      have sJn : ∀ {a : Addr} {o : HO}, J a = some o → ∀ x ∈ nms, s' x ≠ a := fun e x hx z => by rw [← z, nJ x hx] at e; cases e
      have hlF : F l = some (.lst lvs) := oF.lst (fun z => by rw [z, hm2] at n3; cases n3) (s4 _ _ e3)
      have law : LawAt K F ⟨m0, p0, p1, q0, p2, p3, l, s', true⟩ nms st v1 v2 lds := by
        refine ⟨⟨vv, hmF, h2.tk tF⟩, ⟨fr, .inl (oJ.dK (Ne.symm b0) d0'), fun x hx => (hrm2 x hx).tk tF⟩, ⟨fd, .inl (oJ.dK (Ne.symm b1) d1'), fun x hx => (hdp2 x hx).tk tF⟩, oJF.dK (qn hm) hq, fun x hx => ?_, ⟨fw, oJ.dK (Ne.symm b2) d2', fun x hx => (hw2 x hx).tk tF⟩, oJ.dK (Ne.symm b3) d3', ⟨lvs, hlF, hv2, hv3.tk tF⟩, inj, ?_, fun x hx => ?_, ln⟩
        · obtain ⟨k, hk⟩ := List.getElem?_of_mem hx
          have kl := (List.getElem?_eq_some_iff.mp hk).1
          exact ((alU k _ x (List.getElem?_eq_getElem (by omega)) hk).2).off oUF (sJn hm x hx)
        · simp only [List.nodup_cons, List.mem_cons, List.not_mem_nil, or_false, not_or, List.nodup_nil, and_true, not_false_iff]
          exact ⟨⟨b0, b1, Ne.symm (qn hm), b2, b3⟩, ⟨c1, Ne.symm (qn d0'), c2, c3⟩, ⟨Ne.symm (qn d1'), c4, c5⟩, ⟨qn d2', qn d3'⟩, c6⟩
        · show s' x ∉ [m0, p0, p1, q0, p2, p3]
          intro h
          simp only [List.mem_cons, List.not_mem_nil, or_false] at h
          rcases h with z | z | z | z | z | z
          · exact sJn hm x hx z
          · exact sJn d0' x hx z
          · exact sJn d1' x hx z
          · obtain ⟨k, hk⟩ := List.getElem?_of_mem hx
            have kl := (List.getElem?_eq_some_iff.mp hk).1
            obtain ⟨f, k1, _⟩ := (alU k _ x (List.getElem?_eq_getElem (by omega)) hk).2
            rw [z, nq] at k1
            cases k1
          · exact sJn d2' x hx z
          · exact sJn d3' x hx z
      have nps : H p0 = none ∧ H p1 = none ∧ H p2 = none ∧ H p3 = none := ⟨nn p0 (by simp), nn p1 (by simp), nn p2 (by simp), nn p3 (by simp)⟩
      refine ⟨_, rfl, q ⟨m0, p0, p1, q0, p2, p3, l, s', true⟩ F rfl sF law (fun a r => ?_) nps.1 nps.2.1 ⟨_, oJ.dK (Ne.symm b0) d0'⟩⟩
      rcases r with r | r | r | r | r | ⟨x, hx, r⟩
      · rw [r]; exact nm
      · rw [r]; exact nq0
      · rw [r]; exact nps.2.2.1
      · rw [r]; exact nps.2.2.2
      · rw [r]; exact back s2 n3
      · rw [r]; exact back s0J (nJ x hx)

end
end KR
namespace KR
open PySem PySem.Spec PyProof.Rows L2
section
variable {P : Program} {w : World} {K : PySem.W.Frag} {mg : Str → Option Value} {base : Heap}
theorem mkv_len {B : LAd} {x : V} : (mkv B x).length = 7 := by
  unfold mkv
  cases B.o <;> rfl
/-- the word of a pour that is at fault -/
def fltW : Nat → Str
  | 0 => "NoMould"
  | 1 => "Cured"
  | _ => "NoRoom"
def sp_lfill (K : PySem.W.Frag) : Sp := fun vs H Q _ => ∃ (A : LAd) (nms : List Str) (st : Str → Mo) (v1 v2 : Rat) (lds : List PyData) (k : Int) (l : Addr) (pvs : List V) (ps : List Pour), vs = [.ref A.m, .int k, .ref l] ∧ LawAt K H A nms st v1 v2 lds ∧ nms.Nodup ∧ H l = some (.lst pvs) ∧ PoursAt K H pvs ps ∧ ps.length ≤ 1000 ∧
  (∀ p ∈ ps, PyData.canLay0 (.str p.1) = true ∧ Big p.2.1 ∧ Big p.2.2) ∧ (∀ i p, ps[i]? = some p → p.1 ∈ nms → (st p.1).cur = false → LFit (lfold st k (ps.take i) p.1) ∧ Big ((lfold st k (ps.take i) p.1).s + (lfold st k (ps.take i) p.1).w + (p.2.1 + p.2.2)) ∧ Big (p.2.1 + p.2.2)) ∧
  (∀ g x, pflt nms st (jus st) ps = some (g, x) → ∀ a H', Off K (fun _ => False) H H' → Dtu K H' 3 (.ref a) (refD (fltW g) x) → Q (.ref a) H') ∧
  (pflt nms st (jus st) ps = none → ∀ (A' : LAd) H', A'.m = A.m → A'.o = A.o → LawAt K H' A' nms (lfold st k ps) v1 v2 lds → (∀ a, A'.R nms a → a = A.m ∨ H a = none) → H A'.rm = none → H A'.dp = none → (∃ kvs, H' A'.rm = some (.dK kvs)) → Off K (· = A.m) H H' → Q .non H')
theorem ok_l_fill (T : All K mg) : FnOk P w K mg base CX0 5 T.f_l_fill T.fd_l_fill ["_law_m", "_law_strike", "_law_pours_here"] (sp_lfill K) := by
  refine T.d_l_fill.fn.ok sc_l_fill (fun vs H Q E h => ?_) (fun cdv A outer s H vs Q E hr h => ?_)
  · obtain ⟨A, nms, st, v1, v2, lds, k, l, pvs, ps, rfl, _⟩ := h
    rfl
  · obtain ⟨Ad, nms, st, v1, v2, lds, k, l, pvs, ps, rfl, hl, ndn, hS, hp, l9, bp, ft, w1, w2⟩ := h
    refine ⟨_, (pss_cons (ps_set (i := 3) sc_l_fill.nd rfl (by first | exact Or.inl rfl | exact Or.inr rfl) (pe_call (ok_l_copied T) (hr.mono (by decide)) (by rfl) T.d_l_copied.mg T.d_l_copied.fn.kp T.d_l_copied.b .nil pass0 (pa_cons (pv 0) pa_nil)))
      (pss_cons (ps_for PassesOwn.never rfl (pi_listK (K := K) rfl (pv 2)) (pg_tupK (K := K) rfl rfl (pgs_cons (pg_name (i := 4) sc_l_fill.nd rfl (by first | exact Or.inl rfl | exact Or.inr rfl)) (pgs_cons (pg_name (i := 5) sc_l_fill.nd rfl (by first | exact Or.inl rfl | exact Or.inr rfl)) pgs_nil))) (pss_cons (ps_if (pt_cmp (pc_dnotin (hu_of hr) (pv 4) (pe_dget (hu_of hr) (pv 0) pe_str (fun _ _ => rfl))) (by with_unfolding_all rfl)) (pss_one (ps_ret (pe_tupI (pa_cons pe_str (pa_cons pe_str (pa_cons (pv 4) pa_nil)))))) pss_nil)
      (pss_cons (ps_if (pt_val (pe_dget (hu_of hr) (pe_dget (hu_of hr) (pv 0) pe_str (fun _ _ => rfl)) (pv 4) (fun _ _ => rfl))) (pss_one (ps_ret (pe_tupI (pa_cons pe_str (pa_cons pe_str (pa_cons (pv 4) pa_nil)))))) pss_nil)
      (pss_cons (ps_set (i := 6) sc_l_fill.nd rfl (by first | exact Or.inl rfl | exact Or.inr rfl) (pe_call (ok_l_inside T) (hr.mono (by decide)) (by rfl) T.d_l_inside.mg T.d_l_inside.fn.kp T.d_l_inside.b .nil pass0 (pa_cons (pv 3) (pa_cons (pv 4) pa_nil))))
      (pss_cons (ps_set (i := 7) sc_l_fill.nd rfl (by first | exact Or.inl rfl | exact Or.inr rfl) (pe_call (ok_l_plus T) (hr.mono (by decide)) (by rfl) T.d_l_plus.mg T.d_l_plus.fn.kp T.d_l_plus.b .nil pass0 (pa_cons (pe_call (ok_l_plus T) (hr.mono (by decide)) (by rfl) T.d_l_plus.mg T.d_l_plus.fn.kp T.d_l_plus.b .nil pass0 (pa_cons (pe_ix (ixT (K := K) rfl) (pv 6) pe_int (fun _ _ => rfl)) (pa_cons (pe_ix (ixT (K := K) rfl) (pv 6) pe_int (fun _ _ => rfl)) pa_nil))) (pa_cons (pe_call (ok_l_plus T) (hr.mono (by decide)) (by rfl) T.d_l_plus.mg T.d_l_plus.fn.kp T.d_l_plus.b .nil pass0 (pa_cons (pe_ix (ixT (K := K) rfl) (pv 5) pe_int (fun _ _ => rfl)) (pa_cons (pe_ix (ixT (K := K) rfl) (pv 5) pe_int (fun _ _ => rfl)) pa_nil))) pa_nil))))
      (pss_cons (ps_if (pt_val (pe_call (ok_l_is_more T) (hr.mono (by decide)) (by rfl) T.d_l_is_more.mg T.d_l_is_more.fn.kp T.d_l_is_more.b .nil pass0 (pa_cons (pv 7) (pa_cons (pe_dget (hu_of hr) (pe_dget (hu_of hr) (pv 0) pe_str (fun _ _ => rfl)) (pv 4) (fun _ _ => rfl)) pa_nil)))) (pss_one (ps_ret (pe_tupI (pa_cons pe_str (pa_cons pe_str (pa_cons (pv 4) pa_nil)))))) pss_nil)
      (pss_cons (ps_set (i := 8) sc_l_fill.nd rfl (by first | exact Or.inl rfl | exact Or.inr rfl) (pe_dget2 (hu_of hr) (pe_dget (hu_of hr) (pe_dget (hu_of hr) (pv 3) pe_str (fun _ _ => rfl)) (pv 4) (fun _ _ => rfl)) (pv 1) (pe_tupI (pa_cons pe_int (pa_cons pe_int pa_nil))) (by exact ⟨rfl, rfl, rfl, rfl⟩)))
      (pss_cons (ps_asg (pe_call (ok_l_plus T) (hr.mono (by decide)) (by rfl) T.d_l_plus.mg T.d_l_plus.fn.kp T.d_l_plus.b .nil pass0 (pa_cons (pv 8) (pa_cons (pe_ix (ixT (K := K) rfl) (pv 5) pe_int (fun _ _ => rfl)) pa_nil))) (pg_sub (pe_dget (hu_of hr) (pe_dget (hu_of hr) (pv 3) pe_str (fun _ _ => rfl)) (pv 4) (fun _ _ => rfl)) (pv 1) (set_dict (hu_of hr))))
      (pss_one (ps_asg (pe_call (ok_l_plus T) (hr.mono (by decide)) (by rfl) T.d_l_plus.mg T.d_l_plus.fn.kp T.d_l_plus.b .nil pass0 (pa_cons (pe_ix (ixT (K := K) rfl) (pv 6) pe_int (fun _ _ => rfl)) (pa_cons (pe_ix (ixT (K := K) rfl) (pv 5) pe_int (fun _ _ => rfl)) pa_nil))) (pg_sub (pe_dget (hu_of hr) (pv 3) pe_str (fun _ _ => rfl)) (pv 4) (set_dict (hu_of hr)))))))))))))
      (pss_cons (ps_expr (pe_bm PySem.F.plainAttrs_dict PySem.F.slot_dict_update PySem.F.type_dict_update mt_updD (pv 0) (pa_cons (pv 3) pa_nil)))
      (pss_one (ps_ret pe_non))))), ?_⟩
    refine ⟨_, rfl, Ad, nms, st, v1, v2, lds, rfl, hl, ndn, fun N H2 No s2 hN fresh nrm ndp hrm => ?_⟩
    have hS2 := s2 _ _ hS
    refine ⟨_, rfl, l, rfl, ⟨_, SqL.of hS2⟩, ?_⟩
    have nl : ¬ N.R nms l := fun z => by
      rw [fresh l z] at hS
      cases hS
    have nw : ∀ {H' : Hp}, Off K (N.R nms) H2 H' → Off K (fun _ => False) H H' := fun o => (Off.same s2).trans o fun c r => .inr (.of (fresh c r))
    refine for_list (K := K) (a := l) (xs := pvs) (fun i σ H' => ∃ (u4 u5 u6 u7 u8 : Option V), σ = [some (.ref Ad.m), some (.int k), some (.ref l), some (.ref N.m), u4, u5, u6, u7, u8] ∧ Off K (N.R nms) H2 H' ∧ LawAt K H' N nms (lfold st k (ps.take i)) v1 v2 lds ∧ pflt nms st (beh (jus st) (ps.take i)) (ps.drop i) = pflt nms st (jus st) ps) ⟨none, none, none, none, none, rfl, .refl, hN, rfl⟩ (fun i σ H' _ ⟨_, _, _, _, _, _, o, _⟩ => SqL.of (o.lst nl hS2)) ?_ ?_
    · rintro i v σ H3 hi ⟨u4, u5, u6, u7, u8, rfl, o3, hN3, hf⟩
      have hi2 := (List.getElem?_eq_some_iff.mp hi).1
      obtain ⟨p, hpi⟩ : ∃ p, ps[i]? = some p := ⟨_, List.getElem?_eq_getElem (by rw [← hp.1]; exact hi2)⟩
      obtain ⟨t, j, rfl, ht, hj⟩ := ((hp.2 i v p hi hpi).tk (TK.same s2)).tk o3.tk
      have pin := List.mem_of_getElem? hpi
      obtain ⟨lay, bs, bw⟩ := bp p pin
      have hlA := hl.off (nw o3) (fun _ _ => id) id id
      obtain ⟨⟨vv, m1, _⟩, ⟨fr, m2, m3⟩, _, _, _, _, m7, _⟩ := hlA
      have hf' := hf
      rw [drop_at hpi, pflt] at hf
      have refuse : ∀ (g : Nat) (wd : Str), wd = fltW g → PyData.canLay0 (.str wd) = true → pflt nms st (jus st) ps = some (g, p.1) → ∀ {H' : Hp}, Off K (N.R nms) H2 H' → ∀ a H'', Same H' H'' → H'' a = some (.tup [.str "refused", .str wd, .str p.1]) → Q (.ref a) H'' := fun g wd ew lw e H' o a H'' s'' h => by
        subst ew
        exact w1 g p.1 e a H'' ((nw o).seq (.same s'')) (DtuAll.tup (.cons (.str _ _ (by decide +kernel)) (.cons (.str _ _ lw) (.cons (.str _ _ lay) .nil))) (SqT.of h) (by show 3 ≤ 100000; decide))
      refine ⟨t, _, rfl, ht, rfl, _, _, rfl, _, _, rfl, rfl, ?_⟩
      refine ⟨_, rfl, _, rfl, Ad.m, _, rfl, g_room m1, ?_⟩
      by_cases hx : p.1 ∈ nms
      case neg =>
        rw [if_pos hx] at hf
        refine ⟨Ad.rm, _, rfl, dget_n0 m2 hx, _, rfl, iteT ?_⟩
        exact ⟨_, rfl, rfl, fun a H' s n h => refuse 0 _ rfl (by decide +kernel) hf.symm o3 a H' s h⟩
      rw [if_neg (fun z => z hx)] at hf
      refine ⟨Ad.rm, _, rfl, dget_n m2 hx, _, rfl, iteF ?_⟩
      refine ⟨_, rfl, Ad.m, _, rfl, g_dry m1, _, rfl, Ad.dr, .bl (st p.1).cur, rfl, dget_n (.inl m7) hx, _, rfl, ?_⟩
      cases hc : (st p.1).cur with
      | true =>
        rw [hc, if_pos rfl] at hf
        refine iteT ?_
        exact ⟨_, rfl, rfl, fun a H' s n h => refuse 1 _ rfl (by decide +kernel) hf.symm o3 a H' s h⟩
      | false =>
      rw [hc, if_neg (by decide)] at hf
      refine iteF ?_
      obtain ⟨F, bW, bP⟩ := ft i p hpi hx hc
      have eS : beh (jus st) (ps.take i) p.1 = ((lfold st k (ps.take i) p.1).s, (lfold st k (ps.take i) p.1).w) := by
        rw [← lfold_jus (k := k)] <;> rfl
      rw [eS] at hf
      obtain ⟨rm', cu', _⟩ := lfold_same (k := k) (ps.take i) (S := st) (x := p.1)
      generalize eSt : lfold st k (ps.take i) = S at hN3 F bW eS hf rm' cu'
      refine ⟨_, rfl, _, rfl, N, nms, S, v1, v2, lds, p.1, rfl, hN3, hx, F.add, F.big, fun ia H4 s4 hj4 => ?_⟩
      rw [← F.sum] at hj4
      obtain ⟨sa, wa, i1, i2, i3⟩ := hj4
      obtain ⟨ja, jb, j1, j2, j3⟩ := hj.same s4
      refine ⟨_, rfl, ia, _, 0, _, rfl, rfl, i1, at0, _, rfl, ia, _, 1, _, rfl, rfl, i1, at1, sa, wa, _, _, rfl, i2, i3, F.s, F.w, trivial, fun z1 H5 s5 n5 h5 => ?_⟩
      refine ⟨_, rfl, j, _, 0, _, rfl, rfl, Same.tup s5 j1, at0, _, rfl, j, _, 1, _, rfl, rfl, Same.tup s5 j1, at1, ja, jb, _, _, rfl, j2.same s5, j3.same s5, bs, bw, trivial, fun z2 H6 s6 n6 h6 => ?_⟩
      refine ⟨z1, z2, _, _, rfl, h5.same s6, h6, F.sw, bP, trivial, fun z3 H7 s7 n7 h7 => ?_⟩
      have s37 : Same H3 H7 := s4.trans (s5.trans (s6.trans s7))
      obtain ⟨ra, era, hra⟩ := m3 p.1 hx
      have bR : Big ((st p.1).room : Rat) := by rw [← rm']; exact F.room
      refine ⟨_, rfl, _, rfl, Ad.m, _, rfl, g_room (s37 _ _ m1), _, rfl, Ad.rm, .ref ra, rfl, (by rw [← era]; exact dget_n (Same.rd s37 m2) hx), z3, ra, _, _, rfl, h7, hra.same s37, bW, bR, _, rfl, ?_⟩
      by_cases cR : ((st p.1).room : Rat) < (S p.1).s + (S p.1).w + (p.2.1 + p.2.2)
      · rw [decide_eq_true cR]
        rw [if_pos (show ((st p.1).room : Rat) < (S p.1).s + p.2.1 + ((S p.1).w + p.2.2) by grind)] at hf
        refine iteT ?_
        exact ⟨_, rfl, rfl, fun a H' s n h => refuse 2 _ rfl (by decide +kernel) hf.symm (o3.seq (.same s37)) a H' s h⟩
      rw [decide_eq_false cR]
      rw [if_neg (show ¬ ((st p.1).room : Rat) < (S p.1).s + p.2.1 + ((S p.1).w + p.2.2) by intro z; exact cR (by grind))] at hf
      refine iteF ?_
      have hN7 := hN3.same s37
      have o7 : Off K (N.R nms) H2 H7 := o3.seq (.same s37)
      have i1' := Same.tup (s5.trans (s6.trans s7)) i1
      have i3' := i3.same (s5.trans (s6.trans s7))
      have j1' := Same.tup (s5.trans (s6.trans s7)) j1
      have j2' := j2.same (s5.trans (s6.trans s7))
      have j3' := j3.same (s5.trans (s6.trans s7))
      have xc : (S p.1).cur = false := by rw [cu']; exact hc
      have lft : (S p.1).left = 1 := by unfold Mo.left; rw [xc] <;> rfl
      clear h5 h6 h7 hra i2
      obtain ⟨⟨vv2, g1, g2⟩, _, _, hsg, hsx, ⟨wf, hw1, hw2⟩, hdr, _, si, nd, sn, ln⟩ := hN7
      obtain ⟨f, f1, f2⟩ := hsx p.1 hx
      refine ⟨_, rfl, N.m, _, rfl, g_sugar g1, _, rfl, N.sg, _, rfl, dget_n (.inl hsg) hx, N.s p.1, rfl, .inl ⟨_, .inl f1⟩, _, rfl, rfl, fun t0 HB sB nB hB => ?_⟩
      have hB' : HB t0 = some (.tup [.int 0, .int 1]) := hB
      obtain ⟨o, z0, og, wq, wb⟩ : ∃ (o : Option V) (w : Addr), DGet HB (N.s p.1) (.int k) o ∧ o.getD (.ref t0) = .ref w ∧ FrQ K HB w (if k ∈ (S p.1).ks then (S p.1).q k else 0) := by
        by_cases hk : k ∈ (S p.1).ks
        · obtain ⟨w, e, hw⟩ := f2 k hk
          rw [if_pos hk]
          rw [lft, Rat.mul_one] at hw
          exact ⟨_, w, dget_i (.inl (sB _ _ f1)) hk, e, hw.same sB⟩
        · rw [if_neg hk]
          exact ⟨_, t0, dget_i0 (.inl (sB _ _ f1)) hk, rfl, FrQ.int (z := 0) hB'⟩
      have bw0 : Big (if k ∈ (S p.1).ks then (S p.1).q k else 0) := by
        split
        · rename_i hk
          have := F.big k hk
          rw [lft, Rat.mul_one] at this
          exact this
        · exact Sz.int (z := 0) (by decide) (by decide)
      refine ⟨o, og, ?_⟩
      refine ⟨_, rfl, _, rfl, j, _, 0, _, rfl, rfl, Same.tup sB j1', at0, z0, ja, _, p.2.1, by rw [wq] <;> rfl, wb, j2'.same sB, bw0, bs, trivial, fun z HC sC nC hC => ?_⟩
      have sAC := sB.trans sC
      have nx := sn p.1 hx
      simp only [List.mem_cons, List.not_mem_nil, or_false, not_or] at nx
      obtain ⟨x1, x2, x3, x4, x5, x6⟩ := nx
      simp only [List.nodup_cons, List.mem_cons, List.not_mem_nil, or_false, not_or, List.nodup_nil, and_true, not_false_iff] at nd
      obtain ⟨⟨a1, a2, a3, a4, a5⟩, ⟨c1, c2, c3, c4⟩, ⟨d1, d2, d3⟩, ⟨e1', e2'⟩, e5⟩ := nd
      refine ⟨_, rfl, N.m, _, rfl, g_sugar (sAC _ _ g1), _, rfl, N.sg, _, rfl, dget_n (.inl (sAC _ _ hsg)) hx, _, rfl, N.s p.1, _, rfl, dput_i (sAC _ _ f1) (by have := F.len; omega), ?_⟩
      have oD : Off K (fun a => a = N.s p.1 ∨ a = N.wt ∨ a = N.dr ∨ a = N.m) H7 (upd HC (N.s p.1) (.dK (byK kI (addK (S p.1).ks k) (set1 f k (.ref z))))) := (Off.same sAC).write (.inl rfl) f1 .dK
      have tD : TK K HC (upd HC (N.s p.1) (.dK (byK kI (addK (S p.1).ks k) (set1 f k (.ref z))))) := .upd (sAC _ _ f1) (fun _ y => by cases y) (fun _ _ y => by cases y)
      have k1 : (upd HC (N.s p.1) (.dK (byK kI (addK (S p.1).ks k) (set1 f k (.ref z))))) N.m = some (.dK (mkv N vv2)) := by rw [upd_ne (fun z => x1 z.symm)]; exact sAC _ _ g1
      have k2 : (upd HC (N.s p.1) (.dK (byK kI (addK (S p.1).ks k) (set1 f k (.ref z))))) N.wt = some (.dK (byK kN nms wf)) := by rw [upd_ne (fun z => x5 z.symm)]; exact sAC _ _ hw1
      have k3 : (upd HC (N.s p.1) (.dK (byK kI (addK (S p.1).ks k) (set1 f k (.ref z))))) N.dr = some (.dK (byK kN nms fun y => .bl (S y).cur)) := by rw [upd_ne (fun z => x6 z.symm)]; exact sAC _ _ hdr
      have k4 : (upd HC (N.s p.1) (.dK (byK kI (addK (S p.1).ks k) (set1 f k (.ref z))))) (N.s p.1) = some (.dK (byK kI (addK (S p.1).ks k) (set1 f k (.ref z)))) := upd_same
      generalize upd HC (N.s p.1) (.dK (byK kI (addK (S p.1).ks k) (set1 f k (.ref z)))) = HD at oD tD k1 k2 k3 k4
      have hCs := hC.tk tD
      refine ⟨_, rfl, ia, _, 1, _, rfl, rfl, oD.tk _ _ i1', at1, _, rfl, j, _, 1, _, rfl, rfl, oD.tk _ _ j1', at1, wa, jb, _, p.2.2, rfl, i3'.tk oD.tk, j3'.tk oD.tk, F.w, bw, trivial, fun z2 HE sE nE hE => ?_⟩
      refine ⟨_, rfl, N.m, _, rfl, g_water (sE _ _ k1), _, rfl, N.wt, _, rfl, dput_n (sE _ _ k2) (by omega), ?_⟩
      have oE : Off K (fun a => a = N.s p.1 ∨ a = N.wt ∨ a = N.dr ∨ a = N.m) H7 (upd HE N.wt (.dK (byK kN (addK nms p.1) (set1 wf p.1 (.ref z2))))) := (oD.seq (.same sE)).write (.inr (.inl rfl)) hw1 .dK
      have tE : TK K HE (upd HE N.wt (.dK (byK kN (addK nms p.1) (set1 wf p.1 (.ref z2))))) := .upd (sE _ _ k2) (fun _ y => by cases y) (fun _ _ y => by cases y)
      have law : LawAt K (upd HE N.wt (.dK (byK kN (addK nms p.1) (set1 wf p.1 (.ref z2))))) N nms (lpour k S p) v1 v2 lds := by
        refine (hN3.same s37).rebuild hx oE ⟨vv2, by rw [upd_ne a4]; exact sE _ _ k1, g2.tk oE.tk⟩ ⟨_, by rw [upd_ne x5]; exact sE _ _ k4, fun y hy => ?_⟩ ⟨_, by rw [upd_same, addK_in hx], fun y hy => ?_⟩ ?_ rfl rfl
        · have l2 : (((S p.1).poured ((S p.1).s + p.2.1) ((S p.1).w + p.2.2)).bear k p.2.1).left = 1 := by
            show (if (S p.1).cur = true then 1 - (S p.1).drip else 1) = 1
            rw [xc] <;> rfl
          rw [l2, Rat.mul_one]
          show FQ K _ (set1 f k (.ref z) y) (set1 (S p.1).q k ((if k ∈ (S p.1).ks then (S p.1).q k else 0) + p.2.1) y)
          by_cases e : y = k
          · subst e
            rw [set1_same, set1_same]
            exact ⟨z, rfl, ((show FrQ K HD z _ from hCs).same sE).tk tE⟩
          · rw [set1_ne e, set1_ne e]
            have := f2 y ((mem_addK.mp hy).resolve_right e)
            rw [lft, Rat.mul_one] at this
            exact this.tk oE.tk
        · by_cases e : y = p.1
          · rw [e, set1_same, set1_same]
            exact ⟨z2, rfl, (show FrQ K HE z2 ((S p.1).w + p.2.2) from hE).tk tE⟩
          · rw [set1_ne e, set1_ne e]
            exact (hw2 y hy).tk oE.tk
        · rw [upd_ne (Ne.symm e5), sE _ _ k3]
          congr 2
          refine byK_congr fun y _ => ?_
          by_cases e : y = p.1
          · rw [e, set1_same] <;> rfl
          · rw [set1_ne e]
      have oE2 : Off K (N.R nms) H7 (upd HE N.wt (.dK (byK kN (addK nms p.1) (set1 wf p.1 (.ref z2))))) := oE.mono fun a z => by
        rcases z with z | z | z | z
        · exact .inr (.inr (.inr (.inr (.inr ⟨p.1, hx, z⟩))))
        · exact .inr (.inr (.inl z))
        · exact .inr (.inr (.inr (.inl z)))
        · exact .inl z
      refine ⟨_, _, _, _, _, rfl, o7.seq oE2, by rw [lfold_take hpi, eSt]; exact law, ?_⟩
      rw [beh_take hpi]
      exact hf
    · rintro σ H3 ⟨u4, u5, u6, u7, u8, rfl, o3, hN3, hf⟩
      rw [hp.1, List.take_of_length_le (Nat.le_refl _)] at hN3
      have ok : pflt nms st (jus st) ps = none := by
        rw [← hf, hp.1, List.drop_of_length_le (Nat.le_refl _)] <;> rfl
      have oH := nw o3
      have hlA := hl.off oH (fun _ _ => id) id id
      obtain ⟨vvA, mA, _⟩ := hlA.m
      obtain ⟨vvN, mN, jN⟩ := hN3.m
      have ne : ∀ c, N.R nms c ∨ c = N.rm ∨ c = N.dp → c ≠ Ad.m := fun c r z => by
        have e0 : H c = none := by
          rcases r with r | r | r
          · exact fresh c r
          · rw [r]; exact nrm
          · rw [r]; exact ndp
        obtain ⟨_, e, _⟩ := hl.m
        rw [z, e] at e0
        cases e0
      refine ⟨_, rfl, .inr (.inr (.inl ⟨rfl, .inl ⟨_, mA⟩⟩)), _, rfl, Ad.m, N.m, _, _, rfl, rfl, mA, mN, Ne.symm (ne _ (.inl (.inl rfl))), by rw [mkv_len, mkv_len]; decide, ?_⟩
      rw [mkv_merge]
      have law := hN3.moveM (o := Ad.o) mA ne jN
      have nR := hN3.nrm
      obtain ⟨kvr, ekr⟩ := hrm
      refine w2 ok { N with m := Ad.m, o := Ad.o } _ rfl rfl law (fun a r => ?_) nrm ndp ⟨kvr, ?_⟩ ((oH.mono fun _ z => z.elim).seq (.put mA .dK rfl))
      · rcases r with r | r
        · exact .inl r
        · exact .inr (fresh a (.inr r))
      · rw [upd_ne (ne N.rm (.inr (.inl rfl)))]
        exact o3.dK nR.1 ekr

end
end KR
namespace KR
open PySem PySem.Spec PyProof.Rows L2
section
variable {P : Program} {w : World} {K : PySem.W.Frag} {mg : Str → Option Value} {base : Heap}
def sp_ldraw (K : PySem.W.Frag) : Sp := fun vs H Q _ => ∃ (A : LAd) (nms : List Str) (st : Str → Mo) (v1 v2 : Rat) (lds : List PyData) (a : Addr) (t : Rat), vs = [.ref A.m, .ref a] ∧ LawAt K H A nms st v1 v2 lds ∧ FrQ K H a t ∧ Big v1 ∧ Big v2 ∧ Big t ∧ Big (1 - t) ∧
  (¬ ShOk t → ∀ x H', Same H H' → Dtu K H' 3 (.ref x) (.tuple [.str "refused", .str "NoShare", dq t]) → Q (.ref x) H') ∧ (ShOk t → (v1 = 0 ∧ v2 = 0) → ∀ x H', Same H H' → Dtu K H' 3 (.ref x) (refD "Empty" "vat") → Q (.ref x) H') ∧
  (ShOk t → ¬ (v1 = 0 ∧ v2 = 0) → ∀ x H', LawAt K H' A nms st (v1 * (1 - t)) (v2 * (1 - t)) lds → JuQ K H' x (v1 * t) (v2 * t) → Off K (A.R nms) H H' → Q (.ref x) H')
theorem ok_l_draw (T : All K mg) : FnOk P w K mg base CX0 3 T.f_l_draw T.fd_l_draw ["_law_m", "_law_share_here"] (sp_ldraw K) := by
  refine T.d_l_draw.fn.ok sc_l_draw (fun vs H Q E h => ?_) (fun cdv A outer s H vs Q E hr h => ?_)
  · obtain ⟨A, nms, st, v1, v2, lds, a, t, rfl, _⟩ := h
    rfl
  · obtain ⟨Ad, nms, st, v1, v2, lds, a, t, rfl, hl, ha, b1, b2, b3, b4, w1, w2, w3⟩ := h
    refine ⟨_, (pss_cons (ps_if (pt_not (pt_chain3 op_lt op_le op_le pe_int (pe_ix (ixT (K := K) rfl) (pv 1) pe_int (fun _ _ => rfl)) (pe_ix (ixT (K := K) rfl) (pv 1) pe_int (fun _ _ => rfl)) pe_int)) (pss_one (ps_ret (pe_tupI (pa_cons pe_str (pa_cons pe_str (pa_cons (pv 1) pa_nil)))))) pss_nil)
      (pss_cons (ps_if (pt_cmpR (eqDK (K := K) rfl hr.units) (pe_dget (hu_of hr) (pv 0) pe_str (fun _ _ => rfl)) (pe_tupI (pa_cons (pe_tupI (pa_cons pe_int (pa_cons pe_int pa_nil))) (pa_cons (pe_tupI (pa_cons pe_int (pa_cons pe_int pa_nil))) pa_nil))) (nomark _)) (pss_one (ps_ret (pe_tupI (pa_cons pe_str (pa_cons pe_str (pa_cons pe_str pa_nil)))))) pss_nil)
      (pss_cons (ps_asg (pe_tupI (pa_cons (pe_callTy (tupI (K := K) rfl) (by rfl) T.b_tuple (by decide +kernel) (pa_cons (pe_lc (own := [("_law_part", 4)]) (g := gName 4) (tt := tYes) (by rfl) sc_l_draw.nd (pi_tupK (K := K) rfl (pe_dget (hu_of hr) (pv 0) pe_str (fun _ _ => rfl))) (blkOk_by (own := [("_law_part", 4)]) (N := ["_law_m", "_law_share_here", "_law_gone", "_law_stays", "_law_part"]) (sc := defScope s_l_draw) (by decide +kernel)) (fun _ _ _ _ _ => (pg_name (i := 4) sc_l_draw.nd rfl (by first | exact Or.inl rfl | exact Or.inr rfl))) (fun _ _ _ _ _ => pts_nil) (fun _ _ _ _ _ => (pe_call (ok_l_by T) hr (by rfl) T.d_l_by.mg T.d_l_by.fn.kp T.d_l_by.b .nil pass0 (pa_cons (pv 4) (pa_cons (pv 1) pa_nil))))) pa_nil)) (pa_cons (pe_call (ok_l_low T) (hr.mono (by decide)) (by rfl) T.d_l_low.mg T.d_l_low.fn.kp T.d_l_low.b .nil pass0 (pa_cons (pe_op op_sub (pe_ix (ixT (K := K) rfl) (pv 1) pe_int (fun _ _ => rfl)) (pe_ix (ixT (K := K) rfl) (pv 1) pe_int (fun _ _ => rfl))) (pa_cons (pe_ix (ixT (K := K) rfl) (pv 1) pe_int (fun _ _ => rfl)) pa_nil))) pa_nil))) (pg_tupK (K := K) rfl rfl (pgs_cons (pg_name (i := 2) sc_l_draw.nd rfl (by first | exact Or.inl rfl | exact Or.inr rfl)) (pgs_cons (pg_name (i := 3) sc_l_draw.nd rfl (by first | exact Or.inl rfl | exact Or.inr rfl)) pgs_nil))))
      (pss_cons (ps_asg (pe_callTy (tupI (K := K) rfl) (by rfl) T.b_tuple (by decide +kernel) (pa_cons (pe_lc (own := [("_law_part", 4)]) (g := gName 4) (tt := tYes) (by rfl) sc_l_draw.nd (pi_tupK (K := K) rfl (pe_dget (hu_of hr) (pv 0) pe_str (fun _ _ => rfl))) (blkOk_by (own := [("_law_part", 4)]) (N := ["_law_m", "_law_share_here", "_law_gone", "_law_stays", "_law_part"]) (sc := defScope s_l_draw) (by decide +kernel)) (fun _ _ _ _ _ => (pg_name (i := 4) sc_l_draw.nd rfl (by first | exact Or.inl rfl | exact Or.inr rfl))) (fun _ _ _ _ _ => pts_nil) (fun _ _ _ _ _ => (pe_call (ok_l_by T) hr (by rfl) T.d_l_by.mg T.d_l_by.fn.kp T.d_l_by.b .nil pass0 (pa_cons (pv 4) (pa_cons (pv 3) pa_nil))))) pa_nil)) (pg_sub (pv 0) pe_str (set_dict (hu_of hr))))
      (pss_one (ps_ret (pv 2))))))), ?_⟩
    have ha' : SqT K H a [.int t.num, .int (t.den : Int)] := ha
    have hl0 := hl
    obtain ⟨⟨vv, h1, vj, rfl, h2⟩, _⟩ := hl
    obtain ⟨va, vb, q1, q2, q3⟩ := h2
    have bad : ¬ ShOk t → tTupI (tCons (tC (V.str (Str.ofString "refused"))) (tCons (tC (V.str (Str.ofString "NoShare"))) (tCons (tVar 1) tNil))) [some (V.ref Ad.m), some (V.ref a), none, none, none] H Q := fun no =>
      ⟨_, rfl, rfl, fun x H' s n h => w1 no x H' s (DtuAll.tup (.cons (.str _ _ (by decide +kernel)) (.cons (.str _ _ (by decide +kernel)) (.cons ((ha.same s).dtu) .nil))) (SqT.of h) (by show 3 ≤ 100000; decide))⟩
    refine ⟨_, rfl, a, _, 0, _, rfl, rfl, ha', at0, _, _, rfl, rfl, _, rfl, ?_⟩
    by_cases c1 : (0 : Int) < t.num
    case neg =>
      rw [decide_eq_false c1]
      exact ⟨_, rfl, bad fun z => c1 z.1⟩
    rw [decide_eq_true c1]
    refine ⟨_, rfl, a, _, 1, _, rfl, rfl, ha', at1, _, _, rfl, rfl, _, rfl, ?_⟩
    by_cases c2 : t.num ≤ (t.den : Int)
    case neg =>
      rw [decide_eq_false c2]
      exact ⟨_, rfl, bad fun z => c2 z.2.1⟩
    rw [decide_eq_true c2]
    refine ⟨_, _, rfl, rfl, _, rfl, ?_⟩
    by_cases c3 : (t.den : Int) ≤ 12
    case neg =>
      rw [decide_eq_false c3]
      exact bad fun z => c3 z.2.2
    rw [decide_eq_true c3]
    have ok : ShOk t := ⟨c1, c2, c3⟩
    clear bad
    refine ⟨_, rfl, Ad.m, _, rfl, g_vat h1, rfl, fun t1 H1 s1 n1 e1 => ⟨rfl, fun t2 H2 s2 n2 e2 => ⟨rfl, fun t3 H3 s3 n3 e3 => ?_⟩⟩⟩
    have s13 : Same H H3 := s1.trans (s2.trans s3)
    have j0 : JuQ K H3 t3 0 0 := .new e3 ((FrQ.int (z := 0) e1 : FrQ K H1 t1 ((0 : Int) : Rat)).same (s2.trans s3)) ((FrQ.int (z := 0) e2 : FrQ K H2 t2 ((0 : Int) : Rat)).same s3)
    have jv : JuQ K H3 vj v1 v2 := JuQ.same ⟨va, vb, q1, q2, q3⟩ s13
    have e : PyData.eqv (dj v1 v2) (dj 0 0) = decide (v1 = 0 ∧ v2 = 0) := by
      show (PyData.eqv (dq v1) (dq 0) && (PyData.eqv (dq v2) (dq 0) && true)) = _
      rw [eqv_dq, eqv_dq, Bool.and_true, Bool.decide_and]
    refine ⟨dj v1 v2, dj 0 0, jv.dp, j0.dp, rfl, rfl, _, rfl, ?_⟩
    rw [e]
    by_cases c : v1 = 0 ∧ v2 = 0
    case pos =>
      rw [decide_eq_true c]
      refine iteT ?_
      exact ⟨rfl, fun x H' s n h => w2 ok c x H' (s13.trans s) (DtuAll.tup (.cons (.str _ _ (by decide +kernel)) (.cons (.str _ _ (by decide +kernel)) (.cons (.str _ _ (by decide +kernel)) .nil))) (SqT.of h) (by show 3 ≤ 100000; decide))⟩
    rw [decide_eq_false c]
    refine iteF ?_
    have m3 := s13 _ _ h1
    refine ⟨_, rfl, Ad.m, _, rfl, g_vat m3, vj, rfl, ⟨_, Same.tup s13 q1⟩, fun D hD => ?_⟩
    refine lc_tup (K := K) (a := vj) (xs := [.ref va, .ref vb]) (fun e H'' => Same H3 H'' ∧ ∃ l2 : List Addr, l2.length = e ∧ H'' D = some (.lst (l2.map V.ref)) ∧ ∀ (g : Nat) (x : Addr) (r : Rat), l2[g]? = some x → ([v1, v2] : List Rat)[g]? = some r → FrQ K H'' x (r * t))
      ⟨same_new hD, [], rfl, upd_same, fun g x r h => absurd h (by simp)⟩ (fun e H'' _ z => Same.tup z.1 (Same.tup s13 q1)) (fun e x H'' he z => ?_) (fun H'' z => ?_)
    · obtain ⟨sm2, l2, el2, hl2, L2s⟩ := z
      obtain ⟨y2, r, ex, er, hy2, zr⟩ : ∃ (y2 : Addr) (r : Rat), x = .ref y2 ∧ ([v1, v2] : List Rat)[e]? = some r ∧ FrQ K H'' y2 r ∧ Big r := by
        match e, he with
        | 0, he => cases he; exact ⟨va, v1, rfl, rfl, (q2.same s13).same sm2, b1⟩
        | 1, he => cases he; exact ⟨vb, v2, rfl, rfl, (q3.same s13).same sm2, b2⟩
        | e + 2, he => simp at he
      subst ex
      have e2 : e < 2 := (List.getElem?_eq_some_iff.mp er).1
      refine ⟨rfl, yesT ?_⟩
      refine ⟨_, rfl, _, rfl, y2, a, r, t, rfl, hy2, (ha.same s13).same sm2, zr, b3, trivial, fun z4 H4 s4 n4 h4 => ?_⟩
      refine ⟨_, s4 _ _ hl2, by rw [List.length_map]; exact small' (by omega), Same.put (sm2.trans s4) hD, l2 ++ [z4], by rw [List.length_append, el2] <;> rfl, by rw [upd_same, List.map_append] <;> rfl, fun g x r' hg hr' => ?_⟩
      have keep : ∀ {x : Addr} {r : Rat}, FrQ K H4 x r → FrQ K (upd H4 D (.lst (l2.map V.ref ++ [V.ref z4]))) x r := fun h => sqT_frL h (s4 _ _ hl2) fr_upd
      rcases Nat.lt_or_ge g l2.length with lt | ge
      · rw [List.getElem?_append_left lt] at hg
        exact keep ((L2s g x r' hg hr').same s4)
      · rw [List.getElem?_append_right ge] at hg
        have g0 : g = l2.length := by
          have := (List.getElem?_eq_some_iff.mp hg).1
          simp at this
          omega
        subst g0
        rw [Nat.sub_self] at hg
        cases hg
        rw [el2, er] at hr'
        cases hr'
        exact keep h4
    obtain ⟨sm2A, l2, el2, hl2A, L2s⟩ := z
    obtain ⟨g1A, g2A, rfl⟩ : ∃ a b, l2 = [a, b] := by
      match l2, el2 with
      | [a, b], _ => exact ⟨a, b, rfl⟩
    have k1A := L2s 0 g1A v1 rfl rfl
    have k2A := L2s 1 g2A v2 rfl rfl
    clear L2s el2
    refine ⟨D, _, rfl, .inl ⟨SqL.of hl2A, fun g H4 s4 n4 e4 => ?_⟩⟩
    have jg : JuQ K H4 g (v1 * t) (v2 * t) := .new e4 (k1A.same s4) (k2A.same s4)
    have s04 : Same H H4 := s13.trans (sm2A.trans s4)
    refine ⟨_, rfl, a, _, 1, _, rfl, rfl, Same.tup s04 ha', at1, _, rfl, a, _, 0, _, rfl, rfl, Same.tup s04 ha', at0, _, _, rfl, rfl, _, rfl, a, _, 1, _, rfl, rfl, Same.tup s04 ha', at1, ?_⟩
    refine ⟨_, _, rfl, den_ne' _, lt_up (sub_lt b3.2 b3.1) (by decide), lt_up b3.2 (by decide), fun z2 H5 s5 n5 h5 => ⟨rfl, fun p H6 s6 n6 e6 => ?_⟩⟩
    have e1d : rq ((t.den : Int) - t.num) (t.den : Int) = 1 - t := by
      have k := rq_sub 1 t
      have e1 : (1 : Rat).num = 1 := rfl
      have e2 : ((1 : Rat).den : Int) = 1 := rfl
      rw [e1, e2, Int.one_mul, Int.mul_one] at k
      exact k
    rw [e1d] at h5
    have hz2' : FrQ K H6 z2 (1 - t) := h5.same s6
    have s46 := s5.trans s6
    have s36 : Same H H6 := s04.trans s46
    refine ⟨p, _, rfl, SqT.of e6, rfl, _, _, rfl, _, _, rfl, rfl, ?_⟩
    refine ⟨_, rfl, Ad.m, _, rfl, g_vat (s36 _ _ h1), vj, rfl, ⟨_, Same.tup s36 q1⟩, fun D2 hD2 => ?_⟩
    refine lc_tup (K := K) (a := vj) (xs := [.ref va, .ref vb]) (fun e H'' => Same H6 H'' ∧ ∃ l2 : List Addr, l2.length = e ∧ H'' D2 = some (.lst (l2.map V.ref)) ∧ ∀ (g : Nat) (x : Addr) (r : Rat), l2[g]? = some x → ([v1, v2] : List Rat)[g]? = some r → FrQ K H'' x (r * (1 - t)))
      ⟨same_new hD2, [], rfl, upd_same, fun g x r h => absurd h (by simp)⟩ (fun e H'' _ z => Same.tup z.1 (Same.tup s36 q1)) (fun e x H'' he z => ?_) (fun H'' z => ?_)
    · obtain ⟨sm2, l2, el2, hl2, L2s⟩ := z
      obtain ⟨y2, r, ex, er, hy2, zr⟩ : ∃ (y2 : Addr) (r : Rat), x = .ref y2 ∧ ([v1, v2] : List Rat)[e]? = some r ∧ FrQ K H'' y2 r ∧ Big r := by
        match e, he with
        | 0, he => cases he; exact ⟨va, v1, rfl, rfl, (q2.same s36).same sm2, b1⟩
        | 1, he => cases he; exact ⟨vb, v2, rfl, rfl, (q3.same s36).same sm2, b2⟩
        | e + 2, he => simp at he
      subst ex
      have e2 : e < 2 := (List.getElem?_eq_some_iff.mp er).1
      refine ⟨rfl, yesT ?_⟩
      refine ⟨_, rfl, _, rfl, y2, z2, r, 1 - t, rfl, hy2, hz2'.same sm2, zr, b4, trivial, fun z4 H4 s4 n4 h4 => ?_⟩
      refine ⟨_, s4 _ _ hl2, by rw [List.length_map]; exact small' (by omega), Same.put (sm2.trans s4) hD2, l2 ++ [z4], by rw [List.length_append, el2] <;> rfl, by rw [upd_same, List.map_append] <;> rfl, fun g x r' hg hr' => ?_⟩
      have keep : ∀ {x : Addr} {r : Rat}, FrQ K H4 x r → FrQ K (upd H4 D2 (.lst (l2.map V.ref ++ [V.ref z4]))) x r := fun h => sqT_frL h (s4 _ _ hl2) fr_upd
      rcases Nat.lt_or_ge g l2.length with lt | ge
      · rw [List.getElem?_append_left lt] at hg
        exact keep ((L2s g x r' hg hr').same s4)
      · rw [List.getElem?_append_right ge] at hg
        have g0 : g = l2.length := by
          have := (List.getElem?_eq_some_iff.mp hg).1
          simp at this
          omega
        subst g0
        rw [Nat.sub_self] at hg
        cases hg
        rw [el2, er] at hr'
        cases hr'
        exact keep h4
    obtain ⟨sm2B, l2, el2, hl2B, L2s⟩ := z
    obtain ⟨g1B, g2B, rfl⟩ : ∃ a b, l2 = [a, b] := by
      match l2, el2 with
      | [a, b], _ => exact ⟨a, b, rfl⟩
    have k1B := L2s 0 g1B v1 rfl rfl
    have k2B := L2s 1 g2B v2 rfl rfl
    clear L2s el2
    refine ⟨D2, _, rfl, .inl ⟨SqL.of hl2B, fun g' H7 s7 n7 e7 => ?_⟩⟩
    have s67 := sm2B.trans s7
    have s07 := s36.trans s67
    have jg' : JuQ K H7 g' (v1 * (1 - t)) (v2 * (1 - t)) := .new e7 (k1B.same s7) (k2B.same s7)
    refine ⟨_, rfl, Ad.m, _, rfl, p_vat (s07 _ _ h1), ?_⟩
    have law := (hl0.same s07).vat (s07 _ _ h1) ⟨g', rfl, jg'⟩
    have tk := TK.upd (K := K) (o2 := .dK (mkv Ad (.ref g'))) (s07 _ _ h1) (fun _ y => by cases y) (fun _ _ y => by cases y)
    exact ⟨_, rfl, w3 ok c g _ law (((jg.same s46).same s67).tk tk) ((Off.same s07).seq (.put (s07 _ _ h1) .dK (.inl rfl)))⟩

end
end KR
namespace KR
open PySem PySem.Spec PyProof.Rows L2
section
variable {P : Program} {w : World} {K : PySem.W.Frag} {mg : Str → Option Value} {base : Heap}
def sp_ldone (K : PySem.W.Frag) : Sp := fun vs H Q E => ∃ (m d : Addr), vs = [.ref m, .ref d] ∧ ((∃ k l, SqT K H d [.str "fill", .int k, .ref l] ∧ sp_lfill K [.ref m, .int k, .ref l] H Q E) ∨ (∃ x, SqT K H d [.str "drain", .str x] ∧ sp_l_drain K [.ref m, .str x] H Q E) ∨ (∃ x, SqT K H d [.str "knock", .str x] ∧ sp_l_knock K [.ref m, .str x] H Q E) ∨ ∃ a, SqT K H d [.str "draw", .ref a] ∧ sp_ldraw K [.ref m, .ref a] H Q E)
theorem ok_l_done (T : All K mg) : FnOk P w K mg base CX0 6 T.f_l_done T.fd_l_done ["_law_m", "_law_deed_here"] (sp_ldone K) := by
  refine T.d_l_done.fn.ok sc_l_done (fun vs H Q E h => ?_) (fun cdv A outer s H vs Q E hr h => ?_)
  · obtain ⟨m, d, rfl, _⟩ := h
    rfl
  · obtain ⟨m, d, rfl, h⟩ := h
    refine ⟨_, (pss_cons (ps_if (pt_cmpR op_eq (pe_ix (ixT (K := K) rfl) (pv 1) pe_int (fun _ _ => rfl)) pe_str (nomark _)) (pss_one (ps_ret (pe_call (ok_l_fill T) hr (by rfl) T.d_l_fill.mg T.d_l_fill.fn.kp T.d_l_fill.b .nil pass0 (pa_cons (pv 0) (pa_cons (pe_ix (ixT (K := K) rfl) (pv 1) pe_int (fun _ _ => rfl)) (pa_cons (pe_ix (ixT (K := K) rfl) (pv 1) pe_int (fun _ _ => rfl)) pa_nil)))))) pss_nil)
      (pss_cons (ps_if (pt_cmpR op_eq (pe_ix (ixT (K := K) rfl) (pv 1) pe_int (fun _ _ => rfl)) pe_str (nomark _)) (pss_one (ps_ret (pe_call (ok_l_drain T) (hr.mono (by decide)) (by rfl) T.d_l_drain.mg T.d_l_drain.fn.kp T.d_l_drain.b .nil pass0 (pa_cons (pv 0) (pa_cons (pe_ix (ixT (K := K) rfl) (pv 1) pe_int (fun _ _ => rfl)) pa_nil))))) pss_nil)
      (pss_cons (ps_if (pt_cmpR op_eq (pe_ix (ixT (K := K) rfl) (pv 1) pe_int (fun _ _ => rfl)) pe_str (nomark _)) (pss_one (ps_ret (pe_call (ok_l_knock T) hr (by rfl) T.d_l_knock.mg T.d_l_knock.fn.kp T.d_l_knock.b .nil pass0 (pa_cons (pv 0) (pa_cons (pe_ix (ixT (K := K) rfl) (pv 1) pe_int (fun _ _ => rfl)) pa_nil))))) pss_nil)
      (pss_one (ps_ret (pe_call (ok_l_draw T) (hr.mono (by decide)) (by rfl) T.d_l_draw.mg T.d_l_draw.fn.kp T.d_l_draw.b .nil pass0 (pa_cons (pv 0) (pa_cons (pe_ix (ixT (K := K) rfl) (pv 1) pe_int (fun _ _ => rfl)) pa_nil)))))))), ?_⟩
    have n1 : V.str (Str.ofString "drain") ≠ V.str (Str.ofString "fill") := fun z => absurd (V.str.inj z) (by decide +kernel)
    have n2 : V.str (Str.ofString "knock") ≠ V.str (Str.ofString "fill") := fun z => absurd (V.str.inj z) (by decide +kernel)
    have n3 : V.str (Str.ofString "knock") ≠ V.str (Str.ofString "drain") := fun z => absurd (V.str.inj z) (by decide +kernel)
    have n4 : V.str (Str.ofString "draw") ≠ V.str (Str.ofString "fill") := fun z => absurd (V.str.inj z) (by decide +kernel)
    have n5 : V.str (Str.ofString "draw") ≠ V.str (Str.ofString "drain") := fun z => absurd (V.str.inj z) (by decide +kernel)
    have n6 : V.str (Str.ofString "draw") ≠ V.str (Str.ofString "knock") := fun z => absurd (V.str.inj z) (by decide +kernel)
    rcases h with ⟨k, l, ht, h⟩ | ⟨x, ht, h⟩ | ⟨x, ht, h⟩ | ⟨a, ht, h⟩
    · refine ⟨_, rfl, d, _, 0, _, rfl, rfl, ht, at0, rfl, _, rfl, ?_⟩
      rw [decide_eq_true rfl]
      refine iteT ?_
      exact ⟨_, rfl, _, rfl, d, _, 1, _, rfl, rfl, ht, at1, _, rfl, d, _, 2, _, rfl, rfl, ht, at2, h⟩
    · refine ⟨_, rfl, d, _, 0, _, rfl, rfl, ht, at0, rfl, _, rfl, ?_⟩
      rw [decide_eq_false n1]
      refine iteF ?_
      refine ⟨_, rfl, d, _, 0, _, rfl, rfl, ht, at0, rfl, _, rfl, ?_⟩
      rw [decide_eq_true rfl]
      refine iteT ?_
      exact ⟨_, rfl, _, rfl, d, _, 1, _, rfl, rfl, ht, at1, h⟩
    · refine ⟨_, rfl, d, _, 0, _, rfl, rfl, ht, at0, rfl, _, rfl, ?_⟩
      rw [decide_eq_false n2]
      refine iteF ?_
      refine ⟨_, rfl, d, _, 0, _, rfl, rfl, ht, at0, rfl, _, rfl, ?_⟩
      rw [decide_eq_false n3]
      refine iteF ?_
      refine ⟨_, rfl, d, _, 0, _, rfl, rfl, ht, at0, rfl, _, rfl, ?_⟩
      rw [decide_eq_true rfl]
      refine iteT ?_
      exact ⟨_, rfl, _, rfl, d, _, 1, _, rfl, rfl, ht, at1, h⟩
    · refine ⟨_, rfl, d, _, 0, _, rfl, rfl, ht, at0, rfl, _, rfl, ?_⟩
      rw [decide_eq_false n4]
      refine iteF ?_
      refine ⟨_, rfl, d, _, 0, _, rfl, rfl, ht, at0, rfl, _, rfl, ?_⟩
      rw [decide_eq_false n5]
      refine iteF ?_
      refine ⟨_, rfl, d, _, 0, _, rfl, rfl, ht, at0, rfl, _, rfl, ?_⟩
      rw [decide_eq_false n6]
      refine iteF ?_
      exact ⟨_, rfl, _, rfl, d, _, 1, _, rfl, rfl, ht, at1, h⟩

end
end KR
namespace KR
open PySem PySem.Spec PyProof.Rows L2
section
variable {P : Program} {w : World} {K : PySem.W.Frag} {mg : Str → Option Value} {base : Heap}
theorem fill_mono {CO CM CN CC CR : Addr} {vs : List V} {H : Hp} {Q Q' : VK} {E E' : XK} (h : sp_Moulds_fill K CO CM CN CC CR vs H Q E) (m : (∀ v G, Q v G → Q' v G) ∧ ∀ c d G, E c d G → E' c d G) : sp_Moulds_fill K CO CM CN CC CR vs H Q' E' := by
  obtain ⟨A, nms, st, v1, v2, lds, k, l, pvs, ps, e, h1, h2, h3, h4, h5, h6, h7, h8, h9, h10, w1, w2, w3, w4⟩ := h
  exact ⟨A, nms, st, v1, v2, lds, k, l, pvs, ps, e, h1, h2, h3, h4, h5, h6, h7, h8, h9, h10, fun x z => (w1 x z).mono m.2, fun x z => (w2 x z).mono m.2, fun x z => (w3 x z).mono m.2, fun z G a b => m.1 _ _ (w4 z G a b)⟩
theorem drain_mono {CO CM CN CE CC : Addr} {vs : List V} {H : Hp} {Q Q' : VK} {E E' : XK} (h : sp_Moulds_drain K CO CM CN CE CC vs H Q E) (m : (∀ v G, Q v G → Q' v G) ∧ ∀ c d G, E c d G → E' c d G) : sp_Moulds_drain K CO CM CN CE CC vs H Q' E' := by
  obtain ⟨A, nms, st, v1, v2, lds, x, e, h1, h2, h3, h4, w1, w2, w3, w4⟩ := h
  exact ⟨A, nms, st, v1, v2, lds, x, e, h1, h2, h3, h4, fun z => (w1 z).mono m.2, fun z y => (w2 z y).mono m.2, fun z y u => (w3 z y u).mono m.2, fun z y u a G b c d => m.1 _ _ (w4 z y u a G b c d)⟩
theorem knock_mono {CO CM CN CE CC : Addr} {vs : List V} {H : Hp} {Q Q' : VK} {E E' : XK} (h : sp_Moulds_knock K CO CM CN CE CC vs H Q E) (m : (∀ v G, Q v G → Q' v G) ∧ ∀ c d G, E c d G → E' c d G) : sp_Moulds_knock K CO CM CN CE CC vs H Q' E' := by
  obtain ⟨A, nms, st, v1, v2, lds, x, e, h1, h2, h3, w1, w2, w3, w4⟩ := h
  exact ⟨A, nms, st, v1, v2, lds, x, e, h1, h2, h3, fun z => (w1 z).mono m.2, fun z y => (w2 z y).mono m.2, fun z y u => (w3 z y u).mono m.2, fun z y u a g G b c d f => m.1 _ _ (w4 z y u a g G b c d f)⟩
theorem draw_mono {CO CM CE CS : Addr} {vs : List V} {H : Hp} {Q Q' : VK} {E E' : XK} (h : sp_Moulds_draw K CO CM CE CS vs H Q E) (m : (∀ v G, Q v G → Q' v G) ∧ ∀ c d G, E c d G → E' c d G) : sp_Moulds_draw K CO CM CE CS vs H Q' E' := by
  obtain ⟨A, nms, st, v1, v2, lds, a, t, e, h1, h2, h3, h4, h5, h6, w1, w2, w3⟩ := h
  exact ⟨A, nms, st, v1, v2, lds, a, t, e, h1, h2, h3, h4, h5, h6, fun z => (w1 z).mono m.2, fun z y => (w2 z y).mono m.2, fun z y x G b c d => m.1 _ _ (w3 z y x G b c d)⟩
/-- the six refusals of moulds, with their words -/
def SixAt (T : All K mg) (C : Addr) (nm : Str) : Prop := (C = T.C_NoMould ∧ nm = "NoMould") ∨ (C = T.C_NoRoom ∧ nm = "NoRoom") ∨ (C = T.C_Cured ∧ nm = "Cured") ∨ (C = T.C_NotCured ∧ nm = "NotCured") ∨ (C = T.C_NoShare ∧ nm = "NoShare") ∨ (C = T.C_Empty ∧ nm = "Empty")
def sixL (b1 b2 b3 b4 b5 b6 : Bool) : List (Bool × Str) := [(b1, "NoMould"), (b2, "NoRoom"), (b3, "Cured"), (b4, "NotCured"), (b5, "NoShare"), (b6, "Empty")]
theorem six_of (T : All K mg) {C : Addr} {nm : Str} (h : SixAt T C nm) : ∃ b1 b2 b3 b4 b5 b6, PySem.W.kitOne K (.ref C) (.ref T.C_NoMould) = some b1 ∧ PySem.W.kitOne K (.ref C) (.ref T.C_NoRoom) = some b2 ∧ PySem.W.kitOne K (.ref C) (.ref T.C_Cured) = some b3 ∧
    PySem.W.kitOne K (.ref C) (.ref T.C_NotCured) = some b4 ∧ PySem.W.kitOne K (.ref C) (.ref T.C_NoShare) = some b5 ∧ PySem.W.kitOne K (.ref C) (.ref T.C_Empty) = some b6 ∧ ((sixL b1 b2 b3 b4 b5 b6).filter (·.1)).map (·.2) = [nm] ∧ PySem.W.exmOne K (.ref C) (.ref T.C_BoilError) = some true ∧ ExcFacts K C := by
  rcases h with ⟨rfl, rfl⟩ | ⟨rfl, rfl⟩ | ⟨rfl, rfl⟩ | ⟨rfl, rfl⟩ | ⟨rfl, rfl⟩ | ⟨rfl, rfl⟩
  · exact ⟨_, _, _, _, _, _, T.kk_NoMould_NoMould, T.kk_NoMould_NoRoom, T.kk_NoMould_Cured, T.kk_NoMould_NotCured, T.kk_NoMould_NoShare, T.kk_NoMould_Empty, rfl, T.te_NoMould, T.E_NoMould⟩
  · exact ⟨_, _, _, _, _, _, T.kk_NoRoom_NoMould, T.kk_NoRoom_NoRoom, T.kk_NoRoom_Cured, T.kk_NoRoom_NotCured, T.kk_NoRoom_NoShare, T.kk_NoRoom_Empty, rfl, T.te_NoRoom, T.E_NoRoom⟩
  · exact ⟨_, _, _, _, _, _, T.kk_Cured_NoMould, T.kk_Cured_NoRoom, T.kk_Cured_Cured, T.kk_Cured_NotCured, T.kk_Cured_NoShare, T.kk_Cured_Empty, rfl, T.te_Cured, T.E_Cured⟩
  · exact ⟨_, _, _, _, _, _, T.kk_NotCured_NoMould, T.kk_NotCured_NoRoom, T.kk_NotCured_Cured, T.kk_NotCured_NotCured, T.kk_NotCured_NoShare, T.kk_NotCured_Empty, rfl, T.te_NotCured, T.E_NotCured⟩
  · exact ⟨_, _, _, _, _, _, T.kk_NoShare_NoMould, T.kk_NoShare_NoRoom, T.kk_NoShare_Cured, T.kk_NoShare_NotCured, T.kk_NoShare_NoShare, T.kk_NoShare_Empty, rfl, T.te_NoShare, T.E_NoShare⟩
  · exact ⟨_, _, _, _, _, _, T.kk_Empty_NoMould, T.kk_Empty_NoRoom, T.kk_Empty_Cured, T.kk_Empty_NotCured, T.kk_Empty_NoShare, T.kk_Empty_Empty, rfl, T.te_Empty, T.E_Empty⟩
/-- what becomes of a refusal that the law catches -/
def tE (T : All K mg) (Q : VK) : XK := fun cls d G => ∃ (C w : Addr) (nm n2 : Str) (v : V), cls = .ref C ∧ d = some w ∧ G w = some (.xd (wh n2 v)) ∧ SixAt T C nm ∧ ∀ a G', Same G G' → SqT K G' a [.str "refused", .str nm, v] → Q (.ref a) G'
theorem tE.rf (T : All K mg) {Q : VK} {C : Addr} {nm : Str} {v : V} {H : Hp} (s : SixAt T C nm) (h : ∀ a G, Same H G → SqT K G a [.str "refused", .str nm, v] → Q (.ref a) G) : Rf C nm v H (tE T Q) := fun d G sm e => ⟨C, d, nm, nm, v, rfl, rfl, e, s, fun a G' s' z => h a G' (sm.trans s') z⟩
def sp_told (T : All K mg) : Sp := fun vs H Q _ => ∃ (p d dx t l : Addr) (rv vv : V), vs = [.ref p, .ref d] ∧ H p = some (.ins T.C_Moulds dx (mfs rv t vv l)) ∧ ∀ H0, Same H H0 →
  ((∃ k l, SqT K H d [.str "fill", .int k, .ref l] ∧ sp_Moulds_fill K T.C_Moulds T.C_Mould T.C_NoMould T.C_Cured T.C_NoRoom [.ref p, .int k, .ref l] H0 Q (tE T Q)) ∨ (∃ x, SqT K H d [.str "drain", .str x] ∧ sp_Moulds_drain K T.C_Moulds T.C_Mould T.C_NoMould T.C_Empty T.C_Cured [.ref p, .str x] H0 Q (tE T Q)) ∨
  (∃ x, SqT K H d [.str "knock", .str x] ∧ sp_Moulds_knock K T.C_Moulds T.C_Mould T.C_NoMould T.C_Empty T.C_NotCured [.ref p, .str x] H0 Q (tE T Q)) ∨ ∃ a, SqT K H d [.str "draw", .ref a] ∧ sp_Moulds_draw K T.C_Moulds T.C_Mould T.C_Empty T.C_NoShare [.ref p, .ref a] H0 Q (tE T Q))
set_option maxHeartbeats 20000000 in
theorem ok_l_told (T : All K mg) : FnOk P w K mg base CX0 8 T.f_l_told T.fd_l_told ["_law_moulds", "_law_deed_here"] (sp_told T) := by
  refine T.d_l_told.fn.ok sc_l_told (fun vs H Q E h => ?_) (fun cdv A outer s H vs Q E hr h => ?_)
  · obtain ⟨p, d, dx, t, l, rv, vv, rfl, _⟩ := h
    rfl
  · obtain ⟨p, d, dx, t, l, rv, vv, rfl, hp, h⟩ := h
    refine ⟨_, (pss_cons (ps_asg (pe_tupI (pa_cons pe_non (pa_cons pe_non pa_nil))) (pg_tupK (K := K) rfl rfl (pgs_cons (pg_name (i := 2) sc_l_told.nd rfl (by first | exact Or.inl rfl | exact Or.inr rfl)) (pgs_cons (pg_name (i := 3) sc_l_told.nd rfl (by first | exact Or.inl rfl | exact Or.inr rfl)) pgs_nil))))
      (pss_cons (ps_try_keep (i := 4) (tb := _) (ts := fun a cls d => tAsg (tVar 4) (gName 2)) (Wo := fun _ _ _ _ => False) rfl rfl sc_l_told.nd rfl rfl ⟨rfl, by decide, Or.inl T.g_BoilError⟩ takes0 (fun W pn xe tk _ => (pss_one (ps_if (pt_cmpR op_eq (pe_ix (ixT (K := K) rfl) (pv 1) pe_int (fun _ _ => rfl)) pe_str (nomark _)) (pss_one (ps_set (i := 3) sc_l_told.nd rfl (by first | exact Or.inl rfl | exact Or.inr rfl) (pe_methX (pv 0) T.L_Moulds T.m_Moulds_fill (ok_Moulds_fill T) hr T.b_Moulds_fill (fun σ => passAt tk σ) (pa_cons (pe_ix (ixT (K := K) rfl) (pv 1) pe_int (fun _ _ => rfl)) (pa_cons (pe_ix (ixT (K := K) rfl) (pv 1) pe_int (fun _ _ => rfl)) pa_nil))))) (pss_one (ps_if (pt_cmpR op_eq (pe_ix (ixT (K := K) rfl) (pv 1) pe_int (fun _ _ => rfl)) pe_str (nomark _)) (pss_one (ps_set (i := 3) sc_l_told.nd rfl (by first | exact Or.inl rfl | exact Or.inr rfl) (pe_methX (pv 0) T.L_Moulds T.m_Moulds_drain (ok_Moulds_drain T) (hr.mono (by decide)) T.b_Moulds_drain (fun σ => passAt tk σ) (pa_cons (pe_ix (ixT (K := K) rfl) (pv 1) pe_int (fun _ _ => rfl)) pa_nil)))) (pss_one (ps_if (pt_cmpR op_eq (pe_ix (ixT (K := K) rfl) (pv 1) pe_int (fun _ _ => rfl)) pe_str (nomark _)) (pss_one (ps_set (i := 3) sc_l_told.nd rfl (by first | exact Or.inl rfl | exact Or.inr rfl) (pe_methX (pv 0) T.L_Moulds T.m_Moulds_knock (ok_Moulds_knock T) (hr.mono (by decide)) T.b_Moulds_knock (fun σ => passAt tk σ) (pa_cons (pe_ix (ixT (K := K) rfl) (pv 1) pe_int (fun _ _ => rfl)) pa_nil)))) (pss_one (ps_set (i := 3) sc_l_told.nd rfl (by first | exact Or.inl rfl | exact Or.inr rfl) (pe_methX (pv 0) T.L_Moulds T.m_Moulds_draw_off (ok_Moulds_draw_off T) (hr.mono (by decide)) T.b_Moulds_draw_off (fun σ => passAt tk σ) (pa_cons (pe_ix (ixT (K := K) rfl) (pv 1) pe_int (fun _ _ => rfl)) pa_nil))))))))))) (fun a ob cls d pn z f => pss_one (ps_set (i := 2) sc_l_told.nd rfl (Or.inl rfl) (pv 4))))
      (pss_cons (ps_if (pt_cmpR op_isN (pv 2) pe_non (nomark _)) (pss_one (ps_ret (pv 3))) pss_nil)
      (pss_cons (ps_set (i := 5) sc_l_told.nd rfl (by first | exact Or.inl rfl | exact Or.inr rfl) (pe_lstI (pa_cons (pe_tupI (pa_cons (pe_callB (isX (K := K) rfl) (by rfl) T.b_isinstance (by decide +kernel) (pa_cons (pv 2) (pa_cons (pe_glob (v := .ref T.C_NoMould) rfl T.g_NoMould rfl) pa_nil))) (pa_cons pe_str pa_nil))) (pa_cons (pe_tupI (pa_cons (pe_callB (isX (K := K) rfl) (by rfl) T.b_isinstance (by decide +kernel) (pa_cons (pv 2) (pa_cons (pe_glob (v := .ref T.C_NoRoom) rfl T.g_NoRoom rfl) pa_nil))) (pa_cons pe_str pa_nil))) pa_nil))))
      (pss_cons (ps_set (i := 5) sc_l_told.nd rfl (by first | exact Or.inl rfl | exact Or.inr rfl) (pe_op op_catI (pv 5) (pe_lstI (pa_cons (pe_tupI (pa_cons (pe_callB (isX (K := K) rfl) (by rfl) T.b_isinstance (by decide +kernel) (pa_cons (pv 2) (pa_cons (pe_glob (v := .ref T.C_Cured) rfl T.g_Cured rfl) pa_nil))) (pa_cons pe_str pa_nil))) (pa_cons (pe_tupI (pa_cons (pe_callB (isX (K := K) rfl) (by rfl) T.b_isinstance (by decide +kernel) (pa_cons (pv 2) (pa_cons (pe_glob (v := .ref T.C_NotCured) rfl T.g_NotCured rfl) pa_nil))) (pa_cons pe_str pa_nil))) pa_nil)))))
      (pss_cons (ps_set (i := 5) sc_l_told.nd rfl (by first | exact Or.inl rfl | exact Or.inr rfl) (pe_op op_catI (pv 5) (pe_lstI (pa_cons (pe_tupI (pa_cons (pe_callB (isX (K := K) rfl) (by rfl) T.b_isinstance (by decide +kernel) (pa_cons (pv 2) (pa_cons (pe_glob (v := .ref T.C_NoShare) rfl T.g_NoShare rfl) pa_nil))) (pa_cons pe_str pa_nil))) (pa_cons (pe_tupI (pa_cons (pe_callB (isX (K := K) rfl) (by rfl) T.b_isinstance (by decide +kernel) (pa_cons (pv 2) (pa_cons (pe_glob (v := .ref T.C_Empty) rfl T.g_Empty rfl) pa_nil))) (pa_cons pe_str pa_nil))) pa_nil)))))
      (pss_cons (ps_setLc (i := 6) (own := [("_law_so", 7), ("_law_word", 8)]) (g := gTup K 2 (gCons (gName 7) (gCons (gName 8) gNil))) (by rfl) sc_l_told.nd rfl rfl (sw_true rfl rfl rfl (by decide +kernel)) (pi_listK (K := K) rfl (pv 5)) (blkOk_by (own := [("_law_so", 7), ("_law_word", 8)]) (N := ["_law_moulds", "_law_deed_here", "_law_caught", "_law_told_here", "error", "_law_words", "_law_found", "_law_so", "_law_word"]) (sc := defScope s_l_told) (by decide +kernel)) (fun _ _ _ _ _ => (pg_tupK (K := K) rfl rfl (pgs_cons (pg_name (i := 7) sc_l_told.nd rfl (by first | exact Or.inl rfl | exact Or.inr rfl)) (pgs_cons (pg_name (i := 8) sc_l_told.nd rfl (by first | exact Or.inl rfl | exact Or.inr rfl)) pgs_nil)))) (fun _ _ _ _ _ => (pts_one (pt_val (pv 7)))) (fun _ _ _ _ _ => (pv 8)))
      (pss_one (ps_ret (pe_tupI (pa_cons pe_str (pa_cons (pe_ifExp (pt_cmpR op_eq (pe_callB (lenQ (K := K) rfl) (by rfl) T.b_len PySem.boot_len (pa_cons (pv 6) pa_nil)) pe_int (nomark _)) (pe_ix (ixL (K := K) rfl) (pv 6) pe_int (fun _ _ => rfl)) pe_str) (pa_cons (pe_what rfl (pv 2)) pa_nil))))))))))))), ?_⟩
    have n1 : V.str (Str.ofString "drain") ≠ V.str (Str.ofString "fill") := fun z => absurd (V.str.inj z) (by decide +kernel)
    have n2 : V.str (Str.ofString "knock") ≠ V.str (Str.ofString "fill") := fun z => absurd (V.str.inj z) (by decide +kernel)
    have n3 : V.str (Str.ofString "knock") ≠ V.str (Str.ofString "drain") := fun z => absurd (V.str.inj z) (by decide +kernel)
    have n4 : V.str (Str.ofString "draw") ≠ V.str (Str.ofString "fill") := fun z => absurd (V.str.inj z) (by decide +kernel)
    have n5 : V.str (Str.ofString "draw") ≠ V.str (Str.ofString "drain") := fun z => absurd (V.str.inj z) (by decide +kernel)
    have n6 : V.str (Str.ofString "draw") ≠ V.str (Str.ofString "knock") := fun z => absurd (V.str.inj z) (by decide +kernel)
    refine ⟨rfl, fun c0 H0 s0 n0 h0 => ?_⟩
    refine ⟨c0, _, rfl, SqT.of h0, rfl, _, _, rfl, _, _, rfl, rfl, ?_⟩
    have hp0 := s0 _ _ hp
    rcases h H0 s0 with ⟨k, l, ht, h⟩ | ⟨x, ht, h⟩ | ⟨x, ht, h⟩ | ⟨a, ht, h⟩
    · have ht := Same.tup s0 ht
      refine ⟨_, rfl, d, _, 0, _, rfl, rfl, ht, at0, rfl, _, rfl, ?_⟩
      rw [decide_eq_true rfl]
      refine iteT ?_
      refine ⟨_, rfl, p, dx, _, rfl, hp0, rfl, ⟨_, rfl, d, _, 1, _, rfl, rfl, ht, at1, _, rfl, d, _, 2, _, rfl, rfl, ht, at2, ?_⟩⟩
      dsimp only [tNil]
      refine fill_mono h ?_
      refine ⟨fun v G q => ⟨_, rfl, rfl, _, rfl, iteT ⟨_, rfl, q⟩⟩, fun c d' G e => ?_⟩
      obtain ⟨C, w, nm, n2, v, rfl, rfl, hw, six, q⟩ := e
      obtain ⟨b1, b2, b3, b4, b5, b6, k1, k2, k3, k4, k5, k6, ef, te, xf⟩ := six_of T six
      refine ⟨true, te, fun _ a ha => ⟨_, rfl, ?_⟩, fun z => nomatch z⟩
      have sa : Same G (upd G a (ExK (.ref C) (some w) a)) := same_new ha
      have kp : Kept K (upd G a (ExK (.ref C) (some w) a)) a C w v := ⟨xf, upd_same, ⟨_, sa _ _ hw⟩⟩
      refine ⟨_, rfl, rfl, _, rfl, iteF ?_⟩
      refine ⟨_, rfl, a, C, w, _, .ref T.C_NoMould, _, b1, rfl, kp, .own _, k1, rfl, fun t1 H1 s1 m1 e1 => ?_⟩
      have s1' := s1
      refine ⟨_, rfl, a, C, w, _, .ref T.C_NoRoom, _, b2, rfl, kp.same s1', .own _, k2, rfl, fun t2 H2 s2 m2 e2 => ?_⟩
      have s2' := s1'.trans s2
      refine ⟨rfl, fun L1 H3 s3 m3 e3 => ?_⟩
      have s3' := s2'.trans s3
      refine ⟨_, rfl, _, rfl, a, C, w, _, .ref T.C_Cured, _, b3, rfl, kp.same s3', .own _, k3, rfl, fun t3 H4 s4 m4 e4 => ?_⟩
      have s4' := s3'.trans s4
      refine ⟨_, rfl, a, C, w, _, .ref T.C_NotCured, _, b4, rfl, kp.same s4', .own _, k4, rfl, fun t4 H5 s5 m5 e5 => ?_⟩
      have s5' := s4'.trans s5
      refine ⟨rfl, fun L2 H6 s6 m6 e6 => ?_⟩
      have s6' := s5'.trans s6
      refine ⟨L1, L2, _, _, rfl, rfl, (s4.trans (s5.trans s6)) _ _ e3, e6, (by show 4 ≤ sizeLine; exact small (by decide)), fun L3 H7 s7 m7 e7 => ?_⟩
      have s7' := s6'.trans s7
      refine ⟨_, rfl, _, rfl, a, C, w, _, .ref T.C_NoShare, _, b5, rfl, kp.same s7', .own _, k5, rfl, fun t5 H8 s8 m8 e8 => ?_⟩
      have s8' := s7'.trans s8
      refine ⟨_, rfl, a, C, w, _, .ref T.C_Empty, _, b6, rfl, kp.same s8', .own _, k6, rfl, fun t6 H9 s9 m9 e9 => ?_⟩
      have s9' := s8'.trans s9
      refine ⟨rfl, fun L4 Ha sA mA eA => ?_⟩
      have sA' := s9'.trans sA
      refine ⟨L3, L4, _, _, rfl, rfl, (s8.trans (s9.trans sA)) _ _ e7, eA, (by show 6 ≤ sizeLine; exact small (by decide)), fun L5 Hb sB mB eB => ?_⟩
      have sB' := sA'.trans sB
      refine ⟨_, rfl, L5, rfl, ⟨_, SqL.of eB⟩, fun O hO => ?_⟩
      have tp : ∀ (i : Nat) (x : V), ([V.ref t1, V.ref t2] ++ [V.ref t3, V.ref t4] ++ [V.ref t5, V.ref t6])[i]? = some x → ∃ (t : Addr) (b : Bool) (n : Str), x = .ref t ∧ (sixL b1 b2 b3 b4 b5 b6)[i]? = some (b, n) ∧ Hb t = some (.tup [.bl b, .str n]) := fun i x hx => match i, hx with
        | 0, hx => ⟨t1, b1, _, (Option.some.inj hx).symm, rfl, (s2.trans (s3.trans (s4.trans (s5.trans (s6.trans (s7.trans (s8.trans (s9.trans (sA.trans sB))))))))) _ _ e1⟩
        | 1, hx => ⟨t2, b2, _, (Option.some.inj hx).symm, rfl, (s3.trans (s4.trans (s5.trans (s6.trans (s7.trans (s8.trans (s9.trans (sA.trans sB)))))))) _ _ e2⟩
        | 2, hx => ⟨t3, b3, _, (Option.some.inj hx).symm, rfl, (s5.trans (s6.trans (s7.trans (s8.trans (s9.trans (sA.trans sB)))))) _ _ e4⟩
        | 3, hx => ⟨t4, b4, _, (Option.some.inj hx).symm, rfl, (s6.trans (s7.trans (s8.trans (s9.trans (sA.trans sB))))) _ _ e5⟩
        | 4, hx => ⟨t5, b5, _, (Option.some.inj hx).symm, rfl, (s9.trans (sA.trans sB)) _ _ e8⟩
        | 5, hx => ⟨t6, b6, _, (Option.some.inj hx).symm, rfl, (sA.trans sB) _ _ e9⟩
        | n + 6, hx => by cases hx
      refine lc_list (K := K) (a := L5) (xs := [V.ref t1, V.ref t2] ++ [V.ref t3, V.ref t4] ++ [V.ref t5, V.ref t6]) (fun i H' => Same Hb H' ∧ H' O = some (.lst ((((sixL b1 b2 b3 b4 b5 b6).take i).filter (·.1)).map fun x => V.str x.2))) ⟨same_new hO, upd_same⟩ (fun i H' _ z => SqL.of (z.1 _ _ eB)) (fun i x H' hi z => ?_) ?_
      · obtain ⟨sm, hl⟩ := z
        obtain ⟨t, b, n, rfl, hb, ht6⟩ := tp i x hi
        refine ⟨t, _, rfl, SqT.of (sm _ _ ht6), rfl, _, _, rfl, _, _, rfl, rfl, rfl, ?_⟩
        have l5 : ((((sixL b1 b2 b3 b4 b5 b6).take i).filter (·.1)).map fun x => V.str x.2).length ≤ 100 := by
          rw [List.length_map]
          have k1 := List.length_filter_le (fun x : Bool × Str => x.1) ((sixL b1 b2 b3 b4 b5 b6).take i)
          have k2 : ((sixL b1 b2 b3 b4 b5 b6).take i).length ≤ (sixL b1 b2 b3 b4 b5 b6).length := by
            rw [List.length_take]
            omega
          have k3 : (sixL b1 b2 b3 b4 b5 b6).length = 6 := rfl
          omega
        refine ⟨_, rfl, b, rfl, ?_⟩
        cases b with
        | true =>
          refine ⟨_, rfl, _, hl, small' (by omega), Same.put sm hO, ?_⟩
          rw [upd_same, take_one hb, List.filter_append, List.map_append]
          rfl
        | false =>
          refine ⟨sm, ?_⟩
          rw [hl, take_one hb, List.filter_append, List.map_append]
          show some (HO.lst _) = some (HO.lst (_ ++ []))
          rw [List.append_nil]
      · rintro Hc ⟨sm, hl0⟩
        have hl : Hc O = some (.lst [.str nm]) := by
          rw [hl0]
          show some (HO.lst (((sixL b1 b2 b3 b4 b5 b6).filter (·.1)).map fun x => V.str x.2)) = _
          have e : ((sixL b1 b2 b3 b4 b5 b6).filter (·.1)).map (fun x => V.str x.2) = (((sixL b1 b2 b3 b4 b5 b6).filter (·.1)).map (·.2)).map V.str := by rw [List.map_map] <;> rfl
          rw [e, ef] <;> rfl
        refine ⟨_, rfl, O, _, rfl, .inl (SqL.of hl), rfl, _, rfl, iteT ?_⟩
        refine ⟨_, rfl, O, _, 0, _, rfl, rfl, SqL.of hl, at0, _, rfl, a, C, w, v, rfl, kp.same (sB'.trans sm), rfl, fun t Hd sd md ed => ?_⟩
        exact q t Hd (sa.trans (sB'.trans (sm.trans sd))) (SqT.of ed)
    · have ht := Same.tup s0 ht
      refine ⟨_, rfl, d, _, 0, _, rfl, rfl, ht, at0, rfl, _, rfl, ?_⟩
      rw [decide_eq_false n1]
      refine iteF ?_
      refine ⟨_, rfl, d, _, 0, _, rfl, rfl, ht, at0, rfl, _, rfl, ?_⟩
      rw [decide_eq_true rfl]
      refine iteT ?_
      refine ⟨_, rfl, p, dx, _, rfl, hp0, rfl, ⟨_, rfl, d, _, 1, _, rfl, rfl, ht, at1, ?_⟩⟩
      dsimp only [tNil]
      refine drain_mono h ?_
      refine ⟨fun v G q => ⟨_, rfl, rfl, _, rfl, iteT ⟨_, rfl, q⟩⟩, fun c d' G e => ?_⟩
      obtain ⟨C, w, nm, n2, v, rfl, rfl, hw, six, q⟩ := e
      obtain ⟨b1, b2, b3, b4, b5, b6, k1, k2, k3, k4, k5, k6, ef, te, xf⟩ := six_of T six
      refine ⟨true, te, fun _ a ha => ⟨_, rfl, ?_⟩, fun z => nomatch z⟩
      have sa : Same G (upd G a (ExK (.ref C) (some w) a)) := same_new ha
      have kp : Kept K (upd G a (ExK (.ref C) (some w) a)) a C w v := ⟨xf, upd_same, ⟨_, sa _ _ hw⟩⟩
      refine ⟨_, rfl, rfl, _, rfl, iteF ?_⟩
      refine ⟨_, rfl, a, C, w, _, .ref T.C_NoMould, _, b1, rfl, kp, .own _, k1, rfl, fun t1 H1 s1 m1 e1 => ?_⟩
      have s1' := s1
      refine ⟨_, rfl, a, C, w, _, .ref T.C_NoRoom, _, b2, rfl, kp.same s1', .own _, k2, rfl, fun t2 H2 s2 m2 e2 => ?_⟩
      have s2' := s1'.trans s2
      refine ⟨rfl, fun L1 H3 s3 m3 e3 => ?_⟩
      have s3' := s2'.trans s3
      refine ⟨_, rfl, _, rfl, a, C, w, _, .ref T.C_Cured, _, b3, rfl, kp.same s3', .own _, k3, rfl, fun t3 H4 s4 m4 e4 => ?_⟩
      have s4' := s3'.trans s4
      refine ⟨_, rfl, a, C, w, _, .ref T.C_NotCured, _, b4, rfl, kp.same s4', .own _, k4, rfl, fun t4 H5 s5 m5 e5 => ?_⟩
      have s5' := s4'.trans s5
      refine ⟨rfl, fun L2 H6 s6 m6 e6 => ?_⟩
      have s6' := s5'.trans s6
      refine ⟨L1, L2, _, _, rfl, rfl, (s4.trans (s5.trans s6)) _ _ e3, e6, (by show 4 ≤ sizeLine; exact small (by decide)), fun L3 H7 s7 m7 e7 => ?_⟩
      have s7' := s6'.trans s7
      refine ⟨_, rfl, _, rfl, a, C, w, _, .ref T.C_NoShare, _, b5, rfl, kp.same s7', .own _, k5, rfl, fun t5 H8 s8 m8 e8 => ?_⟩
      have s8' := s7'.trans s8
      refine ⟨_, rfl, a, C, w, _, .ref T.C_Empty, _, b6, rfl, kp.same s8', .own _, k6, rfl, fun t6 H9 s9 m9 e9 => ?_⟩
      have s9' := s8'.trans s9
      refine ⟨rfl, fun L4 Ha sA mA eA => ?_⟩
      have sA' := s9'.trans sA
      refine ⟨L3, L4, _, _, rfl, rfl, (s8.trans (s9.trans sA)) _ _ e7, eA, (by show 6 ≤ sizeLine; exact small (by decide)), fun L5 Hb sB mB eB => ?_⟩
      have sB' := sA'.trans sB
      refine ⟨_, rfl, L5, rfl, ⟨_, SqL.of eB⟩, fun O hO => ?_⟩
      have tp : ∀ (i : Nat) (x : V), ([V.ref t1, V.ref t2] ++ [V.ref t3, V.ref t4] ++ [V.ref t5, V.ref t6])[i]? = some x → ∃ (t : Addr) (b : Bool) (n : Str), x = .ref t ∧ (sixL b1 b2 b3 b4 b5 b6)[i]? = some (b, n) ∧ Hb t = some (.tup [.bl b, .str n]) := fun i x hx => match i, hx with
        | 0, hx => ⟨t1, b1, _, (Option.some.inj hx).symm, rfl, (s2.trans (s3.trans (s4.trans (s5.trans (s6.trans (s7.trans (s8.trans (s9.trans (sA.trans sB))))))))) _ _ e1⟩
        | 1, hx => ⟨t2, b2, _, (Option.some.inj hx).symm, rfl, (s3.trans (s4.trans (s5.trans (s6.trans (s7.trans (s8.trans (s9.trans (sA.trans sB)))))))) _ _ e2⟩
        | 2, hx => ⟨t3, b3, _, (Option.some.inj hx).symm, rfl, (s5.trans (s6.trans (s7.trans (s8.trans (s9.trans (sA.trans sB)))))) _ _ e4⟩
        | 3, hx => ⟨t4, b4, _, (Option.some.inj hx).symm, rfl, (s6.trans (s7.trans (s8.trans (s9.trans (sA.trans sB))))) _ _ e5⟩
        | 4, hx => ⟨t5, b5, _, (Option.some.inj hx).symm, rfl, (s9.trans (sA.trans sB)) _ _ e8⟩
        | 5, hx => ⟨t6, b6, _, (Option.some.inj hx).symm, rfl, (sA.trans sB) _ _ e9⟩
        | n + 6, hx => by cases hx
      refine lc_list (K := K) (a := L5) (xs := [V.ref t1, V.ref t2] ++ [V.ref t3, V.ref t4] ++ [V.ref t5, V.ref t6]) (fun i H' => Same Hb H' ∧ H' O = some (.lst ((((sixL b1 b2 b3 b4 b5 b6).take i).filter (·.1)).map fun x => V.str x.2))) ⟨same_new hO, upd_same⟩ (fun i H' _ z => SqL.of (z.1 _ _ eB)) (fun i x H' hi z => ?_) ?_
      · obtain ⟨sm, hl⟩ := z
        obtain ⟨t, b, n, rfl, hb, ht6⟩ := tp i x hi
        refine ⟨t, _, rfl, SqT.of (sm _ _ ht6), rfl, _, _, rfl, _, _, rfl, rfl, rfl, ?_⟩
        have l5 : ((((sixL b1 b2 b3 b4 b5 b6).take i).filter (·.1)).map fun x => V.str x.2).length ≤ 100 := by
          rw [List.length_map]
          have k1 := List.length_filter_le (fun x : Bool × Str => x.1) ((sixL b1 b2 b3 b4 b5 b6).take i)
          have k2 : ((sixL b1 b2 b3 b4 b5 b6).take i).length ≤ (sixL b1 b2 b3 b4 b5 b6).length := by
            rw [List.length_take]
            omega
          have k3 : (sixL b1 b2 b3 b4 b5 b6).length = 6 := rfl
          omega
        refine ⟨_, rfl, b, rfl, ?_⟩
        cases b with
        | true =>
          refine ⟨_, rfl, _, hl, small' (by omega), Same.put sm hO, ?_⟩
          rw [upd_same, take_one hb, List.filter_append, List.map_append]
          rfl
        | false =>
          refine ⟨sm, ?_⟩
          rw [hl, take_one hb, List.filter_append, List.map_append]
          show some (HO.lst _) = some (HO.lst (_ ++ []))
          rw [List.append_nil]
      · rintro Hc ⟨sm, hl0⟩
        have hl : Hc O = some (.lst [.str nm]) := by
          rw [hl0]
          show some (HO.lst (((sixL b1 b2 b3 b4 b5 b6).filter (·.1)).map fun x => V.str x.2)) = _
          have e : ((sixL b1 b2 b3 b4 b5 b6).filter (·.1)).map (fun x => V.str x.2) = (((sixL b1 b2 b3 b4 b5 b6).filter (·.1)).map (·.2)).map V.str := by rw [List.map_map] <;> rfl
          rw [e, ef] <;> rfl
        refine ⟨_, rfl, O, _, rfl, .inl (SqL.of hl), rfl, _, rfl, iteT ?_⟩
        refine ⟨_, rfl, O, _, 0, _, rfl, rfl, SqL.of hl, at0, _, rfl, a, C, w, v, rfl, kp.same (sB'.trans sm), rfl, fun t Hd sd md ed => ?_⟩
        exact q t Hd (sa.trans (sB'.trans (sm.trans sd))) (SqT.of ed)
    · have ht := Same.tup s0 ht
      refine ⟨_, rfl, d, _, 0, _, rfl, rfl, ht, at0, rfl, _, rfl, ?_⟩
      rw [decide_eq_false n2]
      refine iteF ?_
      refine ⟨_, rfl, d, _, 0, _, rfl, rfl, ht, at0, rfl, _, rfl, ?_⟩
      rw [decide_eq_false n3]
      refine iteF ?_
      refine ⟨_, rfl, d, _, 0, _, rfl, rfl, ht, at0, rfl, _, rfl, ?_⟩
      rw [decide_eq_true rfl]
      refine iteT ?_
      refine ⟨_, rfl, p, dx, _, rfl, hp0, rfl, ⟨_, rfl, d, _, 1, _, rfl, rfl, ht, at1, ?_⟩⟩
      dsimp only [tNil]
      refine knock_mono h ?_
      refine ⟨fun v G q => ⟨_, rfl, rfl, _, rfl, iteT ⟨_, rfl, q⟩⟩, fun c d' G e => ?_⟩
      obtain ⟨C, w, nm, n2, v, rfl, rfl, hw, six, q⟩ := e
      obtain ⟨b1, b2, b3, b4, b5, b6, k1, k2, k3, k4, k5, k6, ef, te, xf⟩ := six_of T six
      refine ⟨true, te, fun _ a ha => ⟨_, rfl, ?_⟩, fun z => nomatch z⟩
      have sa : Same G (upd G a (ExK (.ref C) (some w) a)) := same_new ha
      have kp : Kept K (upd G a (ExK (.ref C) (some w) a)) a C w v := ⟨xf, upd_same, ⟨_, sa _ _ hw⟩⟩
      refine ⟨_, rfl, rfl, _, rfl, iteF ?_⟩
      refine ⟨_, rfl, a, C, w, _, .ref T.C_NoMould, _, b1, rfl, kp, .own _, k1, rfl, fun t1 H1 s1 m1 e1 => ?_⟩
      have s1' := s1
      refine ⟨_, rfl, a, C, w, _, .ref T.C_NoRoom, _, b2, rfl, kp.same s1', .own _, k2, rfl, fun t2 H2 s2 m2 e2 => ?_⟩
      have s2' := s1'.trans s2
      refine ⟨rfl, fun L1 H3 s3 m3 e3 => ?_⟩
      have s3' := s2'.trans s3
      refine ⟨_, rfl, _, rfl, a, C, w, _, .ref T.C_Cured, _, b3, rfl, kp.same s3', .own _, k3, rfl, fun t3 H4 s4 m4 e4 => ?_⟩
      have s4' := s3'.trans s4
      refine ⟨_, rfl, a, C, w, _, .ref T.C_NotCured, _, b4, rfl, kp.same s4', .own _, k4, rfl, fun t4 H5 s5 m5 e5 => ?_⟩
      have s5' := s4'.trans s5
      refine ⟨rfl, fun L2 H6 s6 m6 e6 => ?_⟩
      have s6' := s5'.trans s6
      refine ⟨L1, L2, _, _, rfl, rfl, (s4.trans (s5.trans s6)) _ _ e3, e6, (by show 4 ≤ sizeLine; exact small (by decide)), fun L3 H7 s7 m7 e7 => ?_⟩
      have s7' := s6'.trans s7
      refine ⟨_, rfl, _, rfl, a, C, w, _, .ref T.C_NoShare, _, b5, rfl, kp.same s7', .own _, k5, rfl, fun t5 H8 s8 m8 e8 => ?_⟩
      have s8' := s7'.trans s8
      refine ⟨_, rfl, a, C, w, _, .ref T.C_Empty, _, b6, rfl, kp.same s8', .own _, k6, rfl, fun t6 H9 s9 m9 e9 => ?_⟩
      have s9' := s8'.trans s9
      refine ⟨rfl, fun L4 Ha sA mA eA => ?_⟩
      have sA' := s9'.trans sA
      refine ⟨L3, L4, _, _, rfl, rfl, (s8.trans (s9.trans sA)) _ _ e7, eA, (by show 6 ≤ sizeLine; exact small (by decide)), fun L5 Hb sB mB eB => ?_⟩
      have sB' := sA'.trans sB
      refine ⟨_, rfl, L5, rfl, ⟨_, SqL.of eB⟩, fun O hO => ?_⟩
      have tp : ∀ (i : Nat) (x : V), ([V.ref t1, V.ref t2] ++ [V.ref t3, V.ref t4] ++ [V.ref t5, V.ref t6])[i]? = some x → ∃ (t : Addr) (b : Bool) (n : Str), x = .ref t ∧ (sixL b1 b2 b3 b4 b5 b6)[i]? = some (b, n) ∧ Hb t = some (.tup [.bl b, .str n]) := fun i x hx => match i, hx with
        | 0, hx => ⟨t1, b1, _, (Option.some.inj hx).symm, rfl, (s2.trans (s3.trans (s4.trans (s5.trans (s6.trans (s7.trans (s8.trans (s9.trans (sA.trans sB))))))))) _ _ e1⟩
        | 1, hx => ⟨t2, b2, _, (Option.some.inj hx).symm, rfl, (s3.trans (s4.trans (s5.trans (s6.trans (s7.trans (s8.trans (s9.trans (sA.trans sB)))))))) _ _ e2⟩
        | 2, hx => ⟨t3, b3, _, (Option.some.inj hx).symm, rfl, (s5.trans (s6.trans (s7.trans (s8.trans (s9.trans (sA.trans sB)))))) _ _ e4⟩
        | 3, hx => ⟨t4, b4, _, (Option.some.inj hx).symm, rfl, (s6.trans (s7.trans (s8.trans (s9.trans (sA.trans sB))))) _ _ e5⟩
        | 4, hx => ⟨t5, b5, _, (Option.some.inj hx).symm, rfl, (s9.trans (sA.trans sB)) _ _ e8⟩
        | 5, hx => ⟨t6, b6, _, (Option.some.inj hx).symm, rfl, (sA.trans sB) _ _ e9⟩
        | n + 6, hx => by cases hx
      refine lc_list (K := K) (a := L5) (xs := [V.ref t1, V.ref t2] ++ [V.ref t3, V.ref t4] ++ [V.ref t5, V.ref t6]) (fun i H' => Same Hb H' ∧ H' O = some (.lst ((((sixL b1 b2 b3 b4 b5 b6).take i).filter (·.1)).map fun x => V.str x.2))) ⟨same_new hO, upd_same⟩ (fun i H' _ z => SqL.of (z.1 _ _ eB)) (fun i x H' hi z => ?_) ?_
      · obtain ⟨sm, hl⟩ := z
        obtain ⟨t, b, n, rfl, hb, ht6⟩ := tp i x hi
        refine ⟨t, _, rfl, SqT.of (sm _ _ ht6), rfl, _, _, rfl, _, _, rfl, rfl, rfl, ?_⟩
        have l5 : ((((sixL b1 b2 b3 b4 b5 b6).take i).filter (·.1)).map fun x => V.str x.2).length ≤ 100 := by
          rw [List.length_map]
          have k1 := List.length_filter_le (fun x : Bool × Str => x.1) ((sixL b1 b2 b3 b4 b5 b6).take i)
          have k2 : ((sixL b1 b2 b3 b4 b5 b6).take i).length ≤ (sixL b1 b2 b3 b4 b5 b6).length := by
            rw [List.length_take]
            omega
          have k3 : (sixL b1 b2 b3 b4 b5 b6).length = 6 := rfl
          omega
        refine ⟨_, rfl, b, rfl, ?_⟩
        cases b with
        | true =>
          refine ⟨_, rfl, _, hl, small' (by omega), Same.put sm hO, ?_⟩
          rw [upd_same, take_one hb, List.filter_append, List.map_append]
          rfl
        | false =>
          refine ⟨sm, ?_⟩
          rw [hl, take_one hb, List.filter_append, List.map_append]
          show some (HO.lst _) = some (HO.lst (_ ++ []))
          rw [List.append_nil]
      · rintro Hc ⟨sm, hl0⟩
        have hl : Hc O = some (.lst [.str nm]) := by
          rw [hl0]
          show some (HO.lst (((sixL b1 b2 b3 b4 b5 b6).filter (·.1)).map fun x => V.str x.2)) = _
          have e : ((sixL b1 b2 b3 b4 b5 b6).filter (·.1)).map (fun x => V.str x.2) = (((sixL b1 b2 b3 b4 b5 b6).filter (·.1)).map (·.2)).map V.str := by rw [List.map_map] <;> rfl
          rw [e, ef] <;> rfl
        refine ⟨_, rfl, O, _, rfl, .inl (SqL.of hl), rfl, _, rfl, iteT ?_⟩
        refine ⟨_, rfl, O, _, 0, _, rfl, rfl, SqL.of hl, at0, _, rfl, a, C, w, v, rfl, kp.same (sB'.trans sm), rfl, fun t Hd sd md ed => ?_⟩
        exact q t Hd (sa.trans (sB'.trans (sm.trans sd))) (SqT.of ed)
    · have ht := Same.tup s0 ht
      refine ⟨_, rfl, d, _, 0, _, rfl, rfl, ht, at0, rfl, _, rfl, ?_⟩
      rw [decide_eq_false n4]
      refine iteF ?_
      refine ⟨_, rfl, d, _, 0, _, rfl, rfl, ht, at0, rfl, _, rfl, ?_⟩
      rw [decide_eq_false n5]
      refine iteF ?_
      refine ⟨_, rfl, d, _, 0, _, rfl, rfl, ht, at0, rfl, _, rfl, ?_⟩
      rw [decide_eq_false n6]
      refine iteF ?_
      refine ⟨_, rfl, p, dx, _, rfl, hp0, rfl, ⟨_, rfl, d, _, 1, _, rfl, rfl, ht, at1, ?_⟩⟩
      dsimp only [tNil]
      refine draw_mono h ?_
      refine ⟨fun v G q => ⟨_, rfl, rfl, _, rfl, iteT ⟨_, rfl, q⟩⟩, fun c d' G e => ?_⟩
      obtain ⟨C, w, nm, n2, v, rfl, rfl, hw, six, q⟩ := e
      obtain ⟨b1, b2, b3, b4, b5, b6, k1, k2, k3, k4, k5, k6, ef, te, xf⟩ := six_of T six
      refine ⟨true, te, fun _ a ha => ⟨_, rfl, ?_⟩, fun z => nomatch z⟩
      have sa : Same G (upd G a (ExK (.ref C) (some w) a)) := same_new ha
      have kp : Kept K (upd G a (ExK (.ref C) (some w) a)) a C w v := ⟨xf, upd_same, ⟨_, sa _ _ hw⟩⟩
      refine ⟨_, rfl, rfl, _, rfl, iteF ?_⟩
      refine ⟨_, rfl, a, C, w, _, .ref T.C_NoMould, _, b1, rfl, kp, .own _, k1, rfl, fun t1 H1 s1 m1 e1 => ?_⟩
      have s1' := s1
      refine ⟨_, rfl, a, C, w, _, .ref T.C_NoRoom, _, b2, rfl, kp.same s1', .own _, k2, rfl, fun t2 H2 s2 m2 e2 => ?_⟩
      have s2' := s1'.trans s2
      refine ⟨rfl, fun L1 H3 s3 m3 e3 => ?_⟩
      have s3' := s2'.trans s3
      refine ⟨_, rfl, _, rfl, a, C, w, _, .ref T.C_Cured, _, b3, rfl, kp.same s3', .own _, k3, rfl, fun t3 H4 s4 m4 e4 => ?_⟩
      have s4' := s3'.trans s4
      refine ⟨_, rfl, a, C, w, _, .ref T.C_NotCured, _, b4, rfl, kp.same s4', .own _, k4, rfl, fun t4 H5 s5 m5 e5 => ?_⟩
      have s5' := s4'.trans s5
      refine ⟨rfl, fun L2 H6 s6 m6 e6 => ?_⟩
      have s6' := s5'.trans s6
      refine ⟨L1, L2, _, _, rfl, rfl, (s4.trans (s5.trans s6)) _ _ e3, e6, (by show 4 ≤ sizeLine; exact small (by decide)), fun L3 H7 s7 m7 e7 => ?_⟩
      have s7' := s6'.trans s7
      refine ⟨_, rfl, _, rfl, a, C, w, _, .ref T.C_NoShare, _, b5, rfl, kp.same s7', .own _, k5, rfl, fun t5 H8 s8 m8 e8 => ?_⟩
      have s8' := s7'.trans s8
      refine ⟨_, rfl, a, C, w, _, .ref T.C_Empty, _, b6, rfl, kp.same s8', .own _, k6, rfl, fun t6 H9 s9 m9 e9 => ?_⟩
      have s9' := s8'.trans s9
      refine ⟨rfl, fun L4 Ha sA mA eA => ?_⟩
      have sA' := s9'.trans sA
      refine ⟨L3, L4, _, _, rfl, rfl, (s8.trans (s9.trans sA)) _ _ e7, eA, (by show 6 ≤ sizeLine; exact small (by decide)), fun L5 Hb sB mB eB => ?_⟩
      have sB' := sA'.trans sB
      refine ⟨_, rfl, L5, rfl, ⟨_, SqL.of eB⟩, fun O hO => ?_⟩
      have tp : ∀ (i : Nat) (x : V), ([V.ref t1, V.ref t2] ++ [V.ref t3, V.ref t4] ++ [V.ref t5, V.ref t6])[i]? = some x → ∃ (t : Addr) (b : Bool) (n : Str), x = .ref t ∧ (sixL b1 b2 b3 b4 b5 b6)[i]? = some (b, n) ∧ Hb t = some (.tup [.bl b, .str n]) := fun i x hx => match i, hx with
        | 0, hx => ⟨t1, b1, _, (Option.some.inj hx).symm, rfl, (s2.trans (s3.trans (s4.trans (s5.trans (s6.trans (s7.trans (s8.trans (s9.trans (sA.trans sB))))))))) _ _ e1⟩
        | 1, hx => ⟨t2, b2, _, (Option.some.inj hx).symm, rfl, (s3.trans (s4.trans (s5.trans (s6.trans (s7.trans (s8.trans (s9.trans (sA.trans sB)))))))) _ _ e2⟩
        | 2, hx => ⟨t3, b3, _, (Option.some.inj hx).symm, rfl, (s5.trans (s6.trans (s7.trans (s8.trans (s9.trans (sA.trans sB)))))) _ _ e4⟩
        | 3, hx => ⟨t4, b4, _, (Option.some.inj hx).symm, rfl, (s6.trans (s7.trans (s8.trans (s9.trans (sA.trans sB))))) _ _ e5⟩
        | 4, hx => ⟨t5, b5, _, (Option.some.inj hx).symm, rfl, (s9.trans (sA.trans sB)) _ _ e8⟩
        | 5, hx => ⟨t6, b6, _, (Option.some.inj hx).symm, rfl, (sA.trans sB) _ _ e9⟩
        | n + 6, hx => by cases hx
      refine lc_list (K := K) (a := L5) (xs := [V.ref t1, V.ref t2] ++ [V.ref t3, V.ref t4] ++ [V.ref t5, V.ref t6]) (fun i H' => Same Hb H' ∧ H' O = some (.lst ((((sixL b1 b2 b3 b4 b5 b6).take i).filter (·.1)).map fun x => V.str x.2))) ⟨same_new hO, upd_same⟩ (fun i H' _ z => SqL.of (z.1 _ _ eB)) (fun i x H' hi z => ?_) ?_
      · obtain ⟨sm, hl⟩ := z
        obtain ⟨t, b, n, rfl, hb, ht6⟩ := tp i x hi
        refine ⟨t, _, rfl, SqT.of (sm _ _ ht6), rfl, _, _, rfl, _, _, rfl, rfl, rfl, ?_⟩
        have l5 : ((((sixL b1 b2 b3 b4 b5 b6).take i).filter (·.1)).map fun x => V.str x.2).length ≤ 100 := by
          rw [List.length_map]
          have k1 := List.length_filter_le (fun x : Bool × Str => x.1) ((sixL b1 b2 b3 b4 b5 b6).take i)
          have k2 : ((sixL b1 b2 b3 b4 b5 b6).take i).length ≤ (sixL b1 b2 b3 b4 b5 b6).length := by
            rw [List.length_take]
            omega
          have k3 : (sixL b1 b2 b3 b4 b5 b6).length = 6 := rfl
          omega
        refine ⟨_, rfl, b, rfl, ?_⟩
        cases b with
        | true =>
          refine ⟨_, rfl, _, hl, small' (by omega), Same.put sm hO, ?_⟩
          rw [upd_same, take_one hb, List.filter_append, List.map_append]
          rfl
        | false =>
          refine ⟨sm, ?_⟩
          rw [hl, take_one hb, List.filter_append, List.map_append]
          show some (HO.lst _) = some (HO.lst (_ ++ []))
          rw [List.append_nil]
      · rintro Hc ⟨sm, hl0⟩
        have hl : Hc O = some (.lst [.str nm]) := by
          rw [hl0]
          show some (HO.lst (((sixL b1 b2 b3 b4 b5 b6).filter (·.1)).map fun x => V.str x.2)) = _
          have e : ((sixL b1 b2 b3 b4 b5 b6).filter (·.1)).map (fun x => V.str x.2) = (((sixL b1 b2 b3 b4 b5 b6).filter (·.1)).map (·.2)).map V.str := by rw [List.map_map] <;> rfl
          rw [e, ef] <;> rfl
        refine ⟨_, rfl, O, _, rfl, .inl (SqL.of hl), rfl, _, rfl, iteT ?_⟩
        refine ⟨_, rfl, O, _, 0, _, rfl, rfl, SqL.of hl, at0, _, rfl, a, C, w, v, rfl, kp.same (sB'.trans sm), rfl, fun t Hd sd md ed => ?_⟩
        exact q t Hd (sa.trans (sB'.trans (sm.trans sd))) (SqT.of ed)

end
end KR
namespace KR
open PySem PySem.Spec PyProof.Rows L2
section
variable {P : Program} {w : World} {K : PySem.W.Frag} {mg : Str → Option Value} {base : Heap}
theorem dk_list {K : PySem.W.Frag} {H : Hp} {a : Addr} {us : List V} {ds : List PyData} {n m : Nat} (h : H a = some (.lst us)) (al : DtuAll K H n us ds) (le : n ≤ m) (z : us.length ≤ 100000) : Dk K H (m + 1) (.ref a) (.list ds) := .lst h al.1 z fun i x d a b => ((al.2 i x d a b).up le).dk
theorem dk_five {K : PySem.W.Frag} {H : Hp} {a : Addr} {a1 a2 a3 a4 a5 : V} {d1 d2 d3 d4 d5 : PyData} {n : Nat} (h : H a = some (.lst [a1, a2, a3, a4, a5])) (h1 : Dk K H n a1 d1) (h2 : Dk K H n a2 d2) (h3 : Dk K H n a3 d3) (h4 : Dk K H n a4 d4) (h5 : Dk K H n a5 d5) : Dk K H (n + 1) (.ref a) (.list [d1, d2, d3, d4, d5]) :=
  .lst h rfl (by show 5 ≤ 100000; decide) fun i u v hu hv => match i, hu, hv with
    | 0, hu, hv => by cases hu; cases hv; exact h1
    | 1, hu, hv => by cases hu; cases hv; exact h2
    | 2, hu, hv => by cases hu; cases hv; exact h3
    | 3, hu, hv => by cases hu; cases hv; exact h4
    | 4, hu, hv => by cases hu; cases hv; exact h5
    | i + 5, hu, _ => by simp at hu
theorem dtu_strs {K : PySem.W.Frag} {H : Hp} : ∀ {l : List Str}, (∀ x ∈ l, PyData.canLay0 (.str x) = true) → DtuAll K H 1 (l.map V.str) (l.map PyData.str)
  | [], _ => .nil
  | x :: r, h => .cons (.str 0 x (h x List.mem_cons_self)) (dtu_strs fun y hy => h y (List.mem_cons_of_mem _ hy))
def jusD (st : Str → Mo) (x : Str) : PyData := dj (st x).s (st x).w
def shrD (st : Str → Mo) (x : Str) : PyData := .tuple [.bool (st x).cur, (st x).shd]
def sp_stands (K : PySem.W.Frag) (CO CM : Addr) : Sp := fun vs H Q _ => ∃ (A : MAd) (B : LAd) (nms : List Str) (st : Str → Mo) (v1 v2 : Rat) (lds : List PyData), vs = [.ref A.p, .ref B.m] ∧ MouldsAt K CO CM H A nms st v1 v2 lds ∧ LawAt K H B nms st v1 v2 lds ∧ (∀ x ∈ nms, (st x).Fit2 ∧ PyData.canLay0 (.str x) = true) ∧ ∀ H', Same H H' → Q (.bl true) H'
theorem ok_l_stands (T : All K mg) : FnOk P w K mg base CX0 10 T.f_l_stands T.fd_l_stands ["_law_moulds", "_law_m"] (sp_stands K T.C_Moulds T.C_Mould) := by
  refine T.d_l_stands.fn.ok sc_l_stands (fun vs H Q E h => ?_) (fun cdv A outer s H vs Q E hr h => ?_)
  · obtain ⟨A, B, nms, st, v1, v2, lds, rfl, _⟩ := h
    rfl
  · obtain ⟨Ad, Bd, nms, st, v1, v2, lds, rfl, hm, hl, ft, q⟩ := h
    refine ⟨_, (pss_cons (ps_set (i := 2) sc_l_stands.nd rfl (by first | exact Or.inl rfl | exact Or.inr rfl) (pe_callTy (call_listD rfl) (by rfl) T.b_list (by decide +kernel) (pa_cons (pe_dget (hu_of hr) (pv 1) pe_str (fun _ _ => rfl)) pa_nil)))
      (pss_cons (ps_set (i := 3) sc_l_stands.nd rfl (by first | exact Or.inl rfl | exact Or.inr rfl) (pe_lstI (pa_cons (pe_meth0 (pv 0) T.L_Moulds T.m_Moulds_mould_names (ok_Moulds_mould_names T) (hr.mono (by decide)) T.b_Moulds_mould_names .nil pass0) (pa_cons (pe_meth0 (pv 0) T.L_Moulds T.m_Moulds_vat (ok_Moulds_vat T) (hr.mono (by decide)) T.b_Moulds_vat .nil pass0) (pa_cons (pe_meth0 (pv 0) T.L_Moulds T.m_Moulds_loaves (ok_Moulds_loaves T) (hr.mono (by decide)) T.b_Moulds_loaves .nil pass0) (pa_cons (pe_lc (own := [("_law_name", 4)]) (g := gName 4) (tt := tYes) (by rfl) sc_l_stands.nd (pi_listK (K := K) rfl (pv 2)) (blkOk_by (own := [("_law_name", 4)]) (N := ["_law_moulds", "_law_m", "_law_names_here", "_law_found", "_law_name", "_law_due"]) (sc := defScope s_l_stands) (by decide +kernel)) (fun _ _ _ _ _ => (pg_name (i := 4) sc_l_stands.nd rfl (by first | exact Or.inl rfl | exact Or.inr rfl))) (fun _ _ _ _ _ => pts_nil) (fun _ _ _ _ _ => (pe_meth (pv 0) T.L_Moulds T.m_Moulds_juice_in (ok_Moulds_juice_in T) (hr.mono (by decide)) T.b_Moulds_juice_in .nil passX0 (pa_cons (pv 4) pa_nil)))) pa_nil))))))
      (pss_cons (ps_expr (pe_bm PySem.F.plainAttrs_list PySem.F.slot_list_append PySem.F.type_list_append mt_append (pv 3) (pa_cons (pe_lc (own := [("_law_name", 4)]) (g := gName 4) (tt := tYes) (by rfl) sc_l_stands.nd (pi_listK (K := K) rfl (pv 2)) (blkOk_by (own := [("_law_name", 4)]) (N := ["_law_moulds", "_law_m", "_law_names_here", "_law_found", "_law_name", "_law_due"]) (sc := defScope s_l_stands) (by decide +kernel)) (fun _ _ _ _ _ => (pg_name (i := 4) sc_l_stands.nd rfl (by first | exact Or.inl rfl | exact Or.inr rfl))) (fun _ _ _ _ _ => pts_nil) (fun _ _ _ _ _ => (pe_tupI (pa_cons (pe_meth (pv 0) T.L_Moulds T.m_Moulds_is_cured (ok_Moulds_is_cured T) (hr.mono (by decide)) T.b_Moulds_is_cured .nil passX0 (pa_cons (pv 4) pa_nil)) (pa_cons (pe_meth (pv 0) T.L_Moulds T.m_Moulds_bears (ok_Moulds_bears T) (hr.mono (by decide)) T.b_Moulds_bears .nil passX0 (pa_cons (pv 4) pa_nil)) pa_nil))))) pa_nil)))
      (pss_cons (ps_set (i := 5) sc_l_stands.nd rfl (by first | exact Or.inl rfl | exact Or.inr rfl) (pe_lstI (pa_cons (pv 2) (pa_cons (pe_dget (hu_of hr) (pv 1) pe_str (fun _ _ => rfl)) (pa_cons (pe_dget (hu_of hr) (pv 1) pe_str (fun _ _ => rfl)) (pa_cons (pe_lc (own := [("_law_name", 4)]) (g := gName 4) (tt := tYes) (by rfl) sc_l_stands.nd (pi_listK (K := K) rfl (pv 2)) (blkOk_by (own := [("_law_name", 4)]) (N := ["_law_moulds", "_law_m", "_law_names_here", "_law_found", "_law_name", "_law_due"]) (sc := defScope s_l_stands) (by decide +kernel)) (fun _ _ _ _ _ => (pg_name (i := 4) sc_l_stands.nd rfl (by first | exact Or.inl rfl | exact Or.inr rfl))) (fun _ _ _ _ _ => pts_nil) (fun _ _ _ _ _ => (pe_call (ok_l_inside T) (hr.mono (by decide)) (by rfl) T.d_l_inside.mg T.d_l_inside.fn.kp T.d_l_inside.b .nil pass0 (pa_cons (pv 1) (pa_cons (pv 4) pa_nil))))) pa_nil))))))
      (pss_cons (ps_expr (pe_bm PySem.F.plainAttrs_list PySem.F.slot_list_append PySem.F.type_list_append mt_append (pv 5) (pa_cons (pe_lc (own := [("_law_name", 4)]) (g := gName 4) (tt := tYes) (by rfl) sc_l_stands.nd (pi_listK (K := K) rfl (pv 2)) (blkOk_by (own := [("_law_name", 4)]) (N := ["_law_moulds", "_law_m", "_law_names_here", "_law_found", "_law_name", "_law_due"]) (sc := defScope s_l_stands) (by decide +kernel)) (fun _ _ _ _ _ => (pg_name (i := 4) sc_l_stands.nd rfl (by first | exact Or.inl rfl | exact Or.inr rfl))) (fun _ _ _ _ _ => pts_nil) (fun _ _ _ _ _ => (pe_tupI (pa_cons (pe_dget (hu_of hr) (pe_dget (hu_of hr) (pv 1) pe_str (fun _ _ => rfl)) (pv 4) (fun _ _ => rfl)) (pa_cons (pe_call (ok_l_bears T) (hr.mono (by decide)) (by rfl) T.d_l_bears.mg T.d_l_bears.fn.kp T.d_l_bears.b .nil pass0 (pa_cons (pv 1) (pa_cons (pv 4) pa_nil))) pa_nil))))) pa_nil)))
      (pss_one (ps_ret (pe_call (ok_l_same T) (hr.mono (by decide)) (by rfl) T.d_l_same.mg T.d_l_same.fn.kp T.d_l_same.b .nil pass0 (pa_cons (pv 3) (pa_cons (pv 5) pa_nil)))))))))), ?_⟩
    have ln := hl.ln
    have hl0 := hl
    obtain ⟨⟨_, m1, vj, rfl, m2⟩, ⟨fr, r1, r2⟩, _, _, _, _, mdr, ⟨lvs, e1, e2, e3⟩, _⟩ := hl
    refine ⟨_, rfl, Bd.m, _, rfl, g_room m1, Bd.rm, _, rfl, r1, fun L nL => ?_⟩
    rw [byN_keys]
    have s1 : Same H (upd H L (.lst (nms.map V.str))) := same_new nL
    have hL1 : (upd H L (.lst (nms.map V.str))) L = some (.lst (nms.map V.str)) := upd_same
    generalize upd H L (.lst (nms.map V.str)) = H1 at s1 hL1
    obtain ⟨dx, rv, vq, p1, _⟩ := hm.p
    refine ⟨_, rfl, Ad.p, dx, _, rfl, s1 _ _ p1, rfl, Ad, nms, st, v1, v2, lds, rfl, hm.same s1, fun na H2 s2 n2 hna => ?_⟩
    have s02 := s1.trans s2
    refine ⟨_, rfl, Ad.p, dx, _, rfl, s02 _ _ p1, rfl, Ad, nms, st, v1, v2, lds, rfl, hm.same s02, fun va hva => ?_⟩
    refine ⟨_, rfl, Ad.p, dx, _, rfl, s02 _ _ p1, rfl, Ad, nms, st, v1, v2, lds, rfl, hm.same s02, fun la H3 pls s3 n3 hla llen hls => ?_⟩
    have s03 := s02.trans s3
    have hL3 := (s2.trans s3) _ _ hL1
    refine ⟨_, rfl, L, rfl, ⟨_, SqL.of hL3⟩, fun D1 hD1 => ?_⟩
    refine lc_list (K := K) (a := L) (xs := nms.map V.str) (fun i H' => Same H3 H' ∧ ∃ us, H' D1 = some (.lst us) ∧ us.length = i ∧ DtuAll K H' 3 us ((nms.take i).map (jusD st)))
      ⟨same_new hD1, [], upd_same, rfl, .nil⟩ (fun i H' _ z => SqL.of (z.1 _ _ hL3)) (fun i v H' hi z => ?_) (fun HE1 z => ?_)
    · obtain ⟨sm, us, hus, lus, al⟩ := z
      obtain ⟨x, hx, rfl⟩ : ∃ x, nms[i]? = some x ∧ v = V.str x := by
        rw [List.getElem?_map] at hi
        cases e : nms[i]? with
        | none => rw [e] at hi; cases hi
        | some x => rw [e] at hi; exact ⟨x, rfl, (Option.some.inj hi).symm⟩
      have xn := List.mem_of_getElem? hx
      have i5 : i < nms.length := (List.getElem?_eq_some_iff.mp hx).1
      refine ⟨rfl, yesT ?_⟩
      have put : ∀ {u : V} {HX : Hp}, Same H' HX → Dtu K HX 3 u ((jusD st) x) → ∃ acc, HX D1 = some (.lst acc) ∧ acc.length < sizeLine ∧ Same H3 (upd HX D1 (.lst (acc ++ [u]))) ∧ ∃ us, (upd HX D1 (.lst (acc ++ [u]))) D1 = some (.lst us) ∧ us.length = i + 1 ∧ DtuAll K (upd HX D1 (.lst (acc ++ [u]))) 3 us ((nms.take (i + 1)).map (jusD st)) := fun {u HX} sx k => by
        have oW : Off K (· = D1) HX (upd HX D1 (.lst (us ++ [u]))) := .put (sx _ _ hus) .lst rfl
        refine ⟨us, sx _ _ hus, small' (by omega), Same.put (sm.trans sx) hD1, us ++ [u], upd_same, by rw [List.length_append, lus] <;> rfl, ?_⟩
        rw [take_one hx, List.map_append]
        exact ((al.tk (TK.same sx)).snoc k).tk oW.tk
      refine ⟨_, rfl, Ad.p, dx, _, rfl, (s03.trans sm) _ _ p1, rfl, _, rfl, Ad, nms, st, v1, v2, lds, x, rfl, hm.same (s03.trans sm), fun nx => absurd xn nx, fun _ a ha => ?_⟩
      exact put (Same.refl _) (ha.dtu 0)
    obtain ⟨sm1, us1, hus1, lus1, al1⟩ := z
    rw [List.length_map] at lus1
    rw [List.length_map, List.take_length] at al1
    refine ⟨rfl, fun F H4 s4 n4 hF => ?_⟩
    have s34 := sm1.trans s4
    have s04 := s03.trans s34
    have hL4 := s34 _ _ hL3
    refine ⟨_, rfl, .inl ⟨rfl, _, SqL.of hF⟩, _, rfl, L, rfl, ⟨_, SqL.of hL4⟩, fun D2 hD2 => ?_⟩
    refine lc_list (K := K) (a := L) (xs := nms.map V.str) (fun i H' => Same H4 H' ∧ ∃ us, H' D2 = some (.lst us) ∧ us.length = i ∧ DtuAll K H' 5 us ((nms.take i).map (shrD st)))
      ⟨same_new hD2, [], upd_same, rfl, .nil⟩ (fun i H' _ z => SqL.of (z.1 _ _ hL4)) (fun i v H' hi z => ?_) (fun HE2 z => ?_)
    · obtain ⟨sm, us, hus, lus, al⟩ := z
      obtain ⟨x, hx, rfl⟩ : ∃ x, nms[i]? = some x ∧ v = V.str x := by
        rw [List.getElem?_map] at hi
        cases e : nms[i]? with
        | none => rw [e] at hi; cases hi
        | some x => rw [e] at hi; exact ⟨x, rfl, (Option.some.inj hi).symm⟩
      have xn := List.mem_of_getElem? hx
      have i5 : i < nms.length := (List.getElem?_eq_some_iff.mp hx).1
      refine ⟨rfl, yesT ?_⟩
      have put : ∀ {u : V} {HX : Hp}, Same H' HX → Dtu K HX 5 u ((shrD st) x) → ∃ acc, HX D2 = some (.lst acc) ∧ acc.length < sizeLine ∧ Same H4 (upd HX D2 (.lst (acc ++ [u]))) ∧ ∃ us, (upd HX D2 (.lst (acc ++ [u]))) D2 = some (.lst us) ∧ us.length = i + 1 ∧ DtuAll K (upd HX D2 (.lst (acc ++ [u]))) 5 us ((nms.take (i + 1)).map (shrD st)) := fun {u HX} sx k => by
        have oW : Off K (· = D2) HX (upd HX D2 (.lst (us ++ [u]))) := .put (sx _ _ hus) .lst rfl
        refine ⟨us, sx _ _ hus, small' (by omega), Same.put (sm.trans sx) hD2, us ++ [u], upd_same, by rw [List.length_append, lus] <;> rfl, ?_⟩
        rw [take_one hx, List.map_append]
        exact ((al.tk (TK.same sx)).snoc k).tk oW.tk
      have sx := s04.trans sm
      refine ⟨_, rfl, Ad.p, dx, _, rfl, sx _ _ p1, rfl, _, rfl, Ad, nms, st, v1, v2, lds, x, rfl, hm.same sx, fun nx => absurd xn nx, fun _ => ?_⟩
      refine ⟨_, rfl, Ad.p, dx, _, rfl, sx _ _ p1, rfl, _, rfl, Ad, nms, st, v1, v2, lds, x, rfl, hm.same sx, fun _ => (ft x xn).1.toFit, fun nx => absurd xn nx, fun _ a H5 s5 hd => ⟨rfl, fun t H6 s6 n6 e6 => ?_⟩⟩
      exact put (s5.trans s6) (DtuAll.tup (.cons (.bl _ _) (.cons (hd.tk (TK.same s6)) .nil)) (SqT.of e6) (by show 2 ≤ 100000; decide))
    obtain ⟨sm2, us2, hus2, lus2, al2⟩ := z
    rw [List.length_map] at lus2
    rw [List.length_map, List.take_length] at al2
    have nF : H F = none := by
      cases e : H F with
      | none => rfl
      | some o => rw [(s03.trans sm1) _ _ e] at n4; cases n4
    have hF2 := sm2 _ _ hF
    refine ⟨F, _, _, rfl, rfl, hF2, (by show 4 < sizeLine; decide), ?_⟩
    have ne4 : ∀ {a : Addr} {o : HO}, HE1 a = some o → a ≠ F := fun e z => by rw [z, n4] at e; cases e
    have D2F : D2 ≠ F := fun z => by rw [z, hF] at hD2; cases hD2
    have s42 := s4.trans sm2
    have oG : Off K (· = F) HE2 (upd HE2 F (.lst ([.ref na, .ref va, .ref la, .ref D1] ++ [.ref D2]))) := .put hF2 .lst rfl
    have sG : Same H (upd HE2 F (.lst ([.ref na, .ref va, .ref la, .ref D1] ++ [.ref D2]))) := Same.put (s04.trans sm2) nF
    have hFG : (upd HE2 F (.lst ([.ref na, .ref va, .ref la, .ref D1] ++ [.ref D2]))) F = some (.lst [.ref na, .ref va, .ref la, .ref D1, .ref D2]) := upd_same
    have hnaG := oG.lst (ne4 (sm1 _ _ (s3 _ _ hna))) (s42 _ _ (sm1 _ _ (s3 _ _ hna)))
    have hlaG := oG.lst (ne4 (sm1 _ _ hla)) (s42 _ _ (sm1 _ _ hla))
    have hD1G := oG.lst (ne4 hus1) (s42 _ _ hus1)
    have hD2G := oG.lst D2F hus2
    have hLG := oG.lst (ne4 (sm1 _ _ hL3)) (s42 _ _ (sm1 _ _ hL3))
    have tG : TK K H2 (upd HE2 F (.lst ([.ref na, .ref va, .ref la, .ref D1] ++ [.ref D2]))) := (TK.same (s3.trans (sm1.trans s42))).trans oG.tk
    have al1G := (al1.tk (TK.same s42)).tk oG.tk
    have al2G := al2.tk oG.tk
    have hlsG := (hls.tk (TK.same (sm1.trans s42))).tk oG.tk
    have hvaG := hva.tk tG
    generalize upd HE2 F (.lst ([.ref na, .ref va, .ref la, .ref D1] ++ [.ref D2])) = G at sG hFG hnaG hlaG hD1G hD2G hLG tG al1G al2G hlsG hvaG
    clear oG
    refine ⟨_, rfl, _, rfl, Bd.m, _, rfl, g_vat (sG _ _ m1), _, rfl, Bd.m, _, rfl, g_loaves (sG _ _ m1), _, rfl, L, rfl, ⟨_, SqL.of hLG⟩, fun D3 hD3 => ?_⟩
    refine lc_list (K := K) (a := L) (xs := nms.map V.str) (fun i H' => Same G H' ∧ ∃ us, H' D3 = some (.lst us) ∧ us.length = i ∧ DtuAll K H' 3 us ((nms.take i).map (jusD st)))
      ⟨same_new hD3, [], upd_same, rfl, .nil⟩ (fun i H' _ z => SqL.of (z.1 _ _ hLG)) (fun i v H' hi z => ?_) (fun HE3 z => ?_)
    · obtain ⟨sm, us, hus, lus, al⟩ := z
      obtain ⟨x, hx, rfl⟩ : ∃ x, nms[i]? = some x ∧ v = V.str x := by
        rw [List.getElem?_map] at hi
        cases e : nms[i]? with
        | none => rw [e] at hi; cases hi
        | some x => rw [e] at hi; exact ⟨x, rfl, (Option.some.inj hi).symm⟩
      have xn := List.mem_of_getElem? hx
      have i5 : i < nms.length := (List.getElem?_eq_some_iff.mp hx).1
      refine ⟨rfl, yesT ?_⟩
      have put : ∀ {u : V} {HX : Hp}, Same H' HX → Dtu K HX 3 u ((jusD st) x) → ∃ acc, HX D3 = some (.lst acc) ∧ acc.length < sizeLine ∧ Same G (upd HX D3 (.lst (acc ++ [u]))) ∧ ∃ us, (upd HX D3 (.lst (acc ++ [u]))) D3 = some (.lst us) ∧ us.length = i + 1 ∧ DtuAll K (upd HX D3 (.lst (acc ++ [u]))) 3 us ((nms.take (i + 1)).map (jusD st)) := fun {u HX} sx k => by
        have oW : Off K (· = D3) HX (upd HX D3 (.lst (us ++ [u]))) := .put (sx _ _ hus) .lst rfl
        refine ⟨us, sx _ _ hus, small' (by omega), Same.put (sm.trans sx) hD3, us ++ [u], upd_same, by rw [List.length_append, lus] <;> rfl, ?_⟩
        rw [take_one hx, List.map_append]
        exact ((al.tk (TK.same sx)).snoc k).tk oW.tk
      have sx := sG.trans sm
      refine ⟨_, rfl, _, rfl, Bd, nms, st, v1, v2, lds, x, rfl, hl0.same sx, xn, (ft x xn).1.add2, (ft x xn).1.big2, fun a H5 s5 hj => ?_⟩
      rw [← (ft x xn).1.sum] at hj
      exact put s5 (hj.dtu 0)
    obtain ⟨sm3, us3, hus3, lus3, al3⟩ := z
    rw [List.length_map] at lus3
    rw [List.length_map, List.take_length] at al3
    refine ⟨rfl, fun E5 H5 s5 n5 hE => ?_⟩
    have s35 := sm3.trans s5
    have s05 := sG.trans s35
    have hL5 := s35 _ _ hLG
    refine ⟨_, rfl, .inl ⟨rfl, _, SqL.of hE⟩, _, rfl, L, rfl, ⟨_, SqL.of hL5⟩, fun D4 hD4 => ?_⟩
    refine lc_list (K := K) (a := L) (xs := nms.map V.str) (fun i H' => Same H5 H' ∧ ∃ us, H' D4 = some (.lst us) ∧ us.length = i ∧ DtuAll K H' 5 us ((nms.take i).map (shrD st)))
      ⟨same_new hD4, [], upd_same, rfl, .nil⟩ (fun i H' _ z => SqL.of (z.1 _ _ hL5)) (fun i v H' hi z => ?_) (fun HE4 z => ?_)
    · obtain ⟨sm, us, hus, lus, al⟩ := z
      obtain ⟨x, hx, rfl⟩ : ∃ x, nms[i]? = some x ∧ v = V.str x := by
        rw [List.getElem?_map] at hi
        cases e : nms[i]? with
        | none => rw [e] at hi; cases hi
        | some x => rw [e] at hi; exact ⟨x, rfl, (Option.some.inj hi).symm⟩
      have xn := List.mem_of_getElem? hx
      have i5 : i < nms.length := (List.getElem?_eq_some_iff.mp hx).1
      refine ⟨rfl, yesT ?_⟩
      have put : ∀ {u : V} {HX : Hp}, Same H' HX → Dtu K HX 5 u ((shrD st) x) → ∃ acc, HX D4 = some (.lst acc) ∧ acc.length < sizeLine ∧ Same H5 (upd HX D4 (.lst (acc ++ [u]))) ∧ ∃ us, (upd HX D4 (.lst (acc ++ [u]))) D4 = some (.lst us) ∧ us.length = i + 1 ∧ DtuAll K (upd HX D4 (.lst (acc ++ [u]))) 5 us ((nms.take (i + 1)).map (shrD st)) := fun {u HX} sx k => by
        have oW : Off K (· = D4) HX (upd HX D4 (.lst (us ++ [u]))) := .put (sx _ _ hus) .lst rfl
        refine ⟨us, sx _ _ hus, small' (by omega), Same.put (sm.trans sx) hD4, us ++ [u], upd_same, by rw [List.length_append, lus] <;> rfl, ?_⟩
        rw [take_one hx, List.map_append]
        exact ((al.tk (TK.same sx)).snoc k).tk oW.tk
      have sx := s05.trans sm
      refine ⟨_, rfl, Bd.m, _, rfl, g_dry (sx _ _ m1), _, rfl, Bd.dr, .bl (st x).cur, rfl, dget_n (.inl (sx _ _ mdr)) xn, _, rfl, _, rfl, Bd, nms, st, v1, v2, lds, x, rfl, hl0.same sx, xn, (ft x xn).1, fun a H6 s6 hd => ⟨rfl, fun t H7 s7 n7 e7 => ?_⟩⟩
      exact put (s6.trans s7) (DtuAll.tup (.cons (.bl _ _) (.cons (hd.tk (TK.same s7)) .nil)) (SqT.of e7) (by show 2 ≤ 100000; decide))
    obtain ⟨sm4, us4, hus4, lus4, al4⟩ := z
    rw [List.length_map] at lus4
    rw [List.length_map, List.take_length] at al4
    have nE : H E5 = none := by
      cases e : H E5 with
      | none => rfl
      | some o => rw [(sG.trans sm3) _ _ e] at n5; cases n5
    have hE4 := sm4 _ _ hE
    refine ⟨E5, _, _, rfl, rfl, hE4, (by show 4 < sizeLine; decide), ?_⟩
    have ne5 : ∀ {a : Addr} {o : HO}, HE3 a = some o → a ≠ E5 := fun e z => by rw [z, n5] at e; cases e
    have D4E : D4 ≠ E5 := fun z => by rw [z, hE] at hD4; cases hD4
    have s54 := s5.trans sm4
    have oZ : Off K (· = E5) HE4 (upd HE4 E5 (.lst ([.ref L, .ref vj, .ref Bd.lv, .ref D3] ++ [.ref D4]))) := .put hE4 .lst rfl
    have sZ : Same H (upd HE4 E5 (.lst ([.ref L, .ref vj, .ref Bd.lv, .ref D3] ++ [.ref D4]))) := Same.put (s05.trans sm4) nE
    have hEZ : (upd HE4 E5 (.lst ([.ref L, .ref vj, .ref Bd.lv, .ref D3] ++ [.ref D4]))) E5 = some (.lst [.ref L, .ref vj, .ref Bd.lv, .ref D3, .ref D4]) := upd_same
    have up : ∀ {a : Addr} {u : List V}, G a = some (.lst u) → (upd HE4 E5 (.lst ([.ref L, .ref vj, .ref Bd.lv, .ref D3] ++ [.ref D4]))) a = some (.lst u) := fun e => oZ.lst (ne5 (sm3 _ _ e)) (s54 _ _ (sm3 _ _ e))
    have tZ : TK K G (upd HE4 E5 (.lst ([.ref L, .ref vj, .ref Bd.lv, .ref D3] ++ [.ref D4]))) := (TK.same (sm3.trans s54)).trans oZ.tk
    have hD3Z := oZ.lst (ne5 hus3) (s54 _ _ hus3)
    have hD4Z := oZ.lst D4E hus4
    have al3Z := (al3.tk (TK.same s54)).tk oZ.tk
    have al4Z := al4.tk oZ.tk
    have l1 : us1.length ≤ 100000 := by omega
    have l2 : us2.length ≤ 100000 := by omega
    have l3 : us3.length ≤ 100000 := by omega
    have l4 : us4.length ≤ 100000 := by omega
    have ls := dtu_strs (K := K) (H := upd HE4 E5 (.lst ([.ref L, .ref vj, .ref Bd.lv, .ref D3] ++ [.ref D4]))) (l := nms) fun x hx => (ft x hx).2
    have lnn : (nms.map V.str).length ≤ 100000 := by rw [List.length_map]; omega
    have dF := dk_five (up hFG) (dk_list (m := 6) (up hnaG) ls (by decide) lnn) ((hvaG.tk tZ).dtu 4).dk (dk_list (m := 6) (up hlaG) (hlsG.tk tZ) (by decide) (by omega)) (dk_list (m := 6) (up hD1G) (al1G.tk tZ) (by decide) l1) (dk_list (m := 6) (up hD2G) (al2G.tk tZ) (by decide) l2)
    have dE := dk_five hEZ (dk_list (m := 6) (up hLG) ls (by decide) lnn) ((m2.same sZ).dtu 4).dk (dk_list (m := 6) (sZ _ _ e1) (e3.tk (TK.same sZ)) (by decide) (by omega)) (dk_list (m := 6) hD3Z al3Z (by decide) l3) (dk_list (m := 6) hD4Z al4Z (by decide) l4)
    exact ⟨_, rfl, _, rfl, _, _, _, rfl, dF, dE, fun H' s => q H' (sZ.trans s)⟩

end
end KR
namespace KR
open PySem PySem.Spec PyProof.Rows L2
section
variable {P : Program} {w : World} {K : PySem.W.Frag} {mg : Str → Option Value} {base : Heap}
/-- a mould's name in a pour: one of the row's, or the stranger's -/
def PNm (nms : List Str) (x : Str) : Prop := x ∈ nms ∨ x = "qmould"
/-- a pour that the law makes -/
def PourOk (nms : List Str) (p : Pour) : Prop := PNm nms p.1 ∧ JuOk p.2.1 p.2.2
def pourD (p : Pour) : PyData := .tuple [.str p.1, dj p.2.1 p.2.2]
def sp_pours (K : PySem.W.Frag) : Sp := fun vs H Q _ => ∃ (b l : Addr) (n : Nat) (A : LAd) (nms : List Str) (st : Str → Mo) (v1 v2 : Rat) (lds : List PyData), vs = [.ref b, .ref A.m, .ref l] ∧ BoxAt H b n ∧ n ≤ 900000000 ∧ LawAt K H A nms st v1 v2 lds ∧ (∀ a, A.R nms a → a ≠ b) ∧ A.rm ≠ b ∧ A.dp ≠ b ∧ SqL K H l (nms.map V.str) ∧ l ≠ b ∧ nms ≠ [] ∧ (∀ x ∈ nms, PyData.canLay0 (.str x) = true ∧ 1 ≤ (st x).room ∧ (st x).room ≤ 1000000) ∧
  ∀ a H' pvs ps, BoxAt H' b (n + 41) → Off K (· = b) H H' → H a = none → H' a = some (.lst pvs) → PoursAt K H' pvs ps → 1 ≤ ps.length → ps.length ≤ 4 → (∀ p ∈ ps, PourOk nms p) → Q (.ref a) H'
theorem ok_l_pours (T : All K mg) : FnOk P w K mg base CX0 4 T.f_l_pours T.fd_l_pours ["_law_box_here", "_law_m", "_law_names_here"] (sp_pours K) := by
  refine T.d_l_pours.fn.ok sc_l_pours (fun vs H Q E h => ?_) (fun cdv A outer s H vs Q E hr h => ?_)
  · obtain ⟨b, l, n, A, nms, st, v1, v2, lds, rfl, _⟩ := h
    rfl
  · obtain ⟨b, l, n, Ad, nms, st, v1, v2, lds, rfl, hB, hn, hl, rb, mb, db, hS, lb, ne, lay, q⟩ := h
    refine ⟨_, (pss_cons (ps_set (i := 3) sc_l_pours.nd rfl (by first | exact Or.inl rfl | exact Or.inr rfl) (pe_lstI pa_nil))
      (pss_cons (ps_for PassesOwn.never rfl (pi_range1 (by rfl) T.b_range (pa_cons (pe_op op_add pe_int (pe_call (ok_l_take T) (hr.mono (by decide)) (by rfl) T.d_l_take.mg T.d_l_take.fn.kp T.d_l_take.b .nil pass0 (pa_cons (pv 0) (pa_cons pe_int pa_nil)))) pa_nil)) (pg_name (i := 4) sc_l_pours.nd rfl (by first | exact Or.inl rfl | exact Or.inr rfl)) (pss_cons (ps_set (i := 5) sc_l_pours.nd rfl (by first | exact Or.inl rfl | exact Or.inr rfl) (pe_ix (ixL (K := K) rfl) (pv 2) (pe_call (ok_l_take T) (hr.mono (by decide)) (by rfl) T.d_l_take.mg T.d_l_take.fn.kp T.d_l_take.b .nil pass0 (pa_cons (pv 0) (pa_cons (pe_callB (lenQ (K := K) rfl) (by rfl) T.b_len PySem.boot_len (pa_cons (pv 2) pa_nil)) pa_nil))) (fun _ _ => rfl)))
      (pss_cons (ps_J (ps_if (PW.pt (pw_and (pt_cmpR (neDK (K := K) rfl hr.units) (pv 3) (pe_lstI pa_nil) (nomark _)) (pw_and1 (pt_cmpR op_eq (pe_call (ok_l_take T) (hr.mono (by decide)) (by rfl) T.d_l_take.mg T.d_l_take.fn.kp T.d_l_take.b .nil pass0 (pa_cons (pv 0) (pa_cons pe_int pa_nil))) pe_int (nomark _))))) (pss_one (ps_set (i := 5) sc_l_pours.nd rfl (by first | exact Or.inl rfl | exact Or.inr rfl) (pe_ix (ixT (K := K) rfl) (pe_ix (ixL (K := K) rfl) (pv 3) (pe_un un_neg pe_int) (fun _ _ => rfl)) pe_int (fun _ _ => rfl)))) pss_nil))
      (pss_cons (ps_J (ps_if (pt_cmpR op_eq (pe_call (ok_l_take T) (hr.mono (by decide)) (by rfl) T.d_l_take.mg T.d_l_take.fn.kp T.d_l_take.b .nil pass0 (pa_cons (pv 0) (pa_cons pe_int pa_nil))) pe_int (nomark _)) (pss_one (ps_set (i := 5) sc_l_pours.nd rfl (by first | exact Or.inl rfl | exact Or.inr rfl) pe_str)) pss_nil))
      (pss_cons (ps_set (i := 6) sc_l_pours.nd rfl (by first | exact Or.inl rfl | exact Or.inr rfl) (pe_ix (ixQ (K := K) rfl) (pe_dget2 (hu_of hr) (pe_dget (hu_of hr) (pv 1) pe_str (fun _ _ => rfl)) (pv 5) (pe_tupI (pa_cons pe_int (pa_cons pe_int pa_nil))) (by exact ⟨rfl, rfl, rfl, rfl⟩)) pe_int (fun _ _ => rfl)))
      (pss_one (ps_expr (pe_bm PySem.F.plainAttrs_list PySem.F.slot_list_append PySem.F.type_list_append mt_append (pv 3) (pa_cons (pe_tupI (pa_cons (pv 5) (pa_cons (pe_call (ok_l_juice T) (hr.mono (by decide)) (by rfl) T.d_l_juice.mg T.d_l_juice.fn.kp T.d_l_juice.b .nil pass0 (pa_cons (pv 0) (pa_cons (pv 6) pa_nil))) pa_nil))) pa_nil)))))))))
      (pss_one (ps_ret (pv 3))))), ?_⟩
    refine ⟨rfl, fun F H1 s1 n1 e1 => ?_⟩
    have Fb : F ≠ b := hB.new n1
    have l0 : 0 < nms.length := by
      cases nms with
      | nil => exact absurd rfl ne
      | cons => exact Nat.succ_pos _
    refine ⟨_, rfl, b, 4, n, rfl, hB.same s1, by omega, by decide, by decide, fun z H2 z0 z1 B2 F2 => ⟨_, _, rfl, rfl, ?_⟩⟩
    obtain ⟨M, eM, M5⟩ : ∃ M : Nat, 1 + z = (M : Int) ∧ M ≤ 4 ∧ 1 ≤ M := ⟨(1 + z).toNat, by omega, by omega, by omega⟩
    refine ⟨M, congrArg (fun t => [V.int t]) eM, by omega, by omega, ?_⟩
    have o2 : Off K (· = b) H H2 := (Off.same s1).seq (.box (hB.same s1) F2)
    have rest : ∀ {H' : Hp}, Off K (· = b) H H' → LawAt K H' Ad nms st v1 v2 lds := fun o => hl.off o rb mb db
    refine for_range (lo := 0) (n := M) (fun i σ H' => ∃ (y4 y5 y6 : Option V) (pvs : List V) (ps : List Pour), σ = [some (.ref b), some (.ref Ad.m), some (.ref l), some (.ref F), y4, y5, y6] ∧ BoxAt H' b (n + 1 + 10 * i) ∧ Off K (· = b) H H' ∧ H' F = some (.lst pvs) ∧ PoursAt K H' pvs ps ∧ ps.length = i ∧ ∀ p ∈ ps, PourOk nms p ∧ PyData.canLay0 (.str p.1) = true) ⟨none, none, none, [], [], rfl, B2, o2, F2 _ _ Fb e1, ⟨rfl, fun i v p h => by simp at h⟩, rfl, fun p h => absurd h List.not_mem_nil⟩ ?_ ?_
    case' refine_2 =>
      rintro σ H' ⟨y4, y5, y6, pvs, ps, rfl, B', o', hF, hp, lp, okp⟩
      refine ⟨_, rfl, q F H' pvs ps (B'.mono (by omega)) o' n1 hF hp (by omega) (by omega) fun p hp => (okp p hp).1⟩
    rintro i σ H3 hi ⟨y4, y5, y6, pvs, ps, rfl, B3, o3, hF, hp, lp, okp⟩
    have lm : (nms.map V.str).length = nms.length := List.length_map _
    have ln := hl.ln
    refine ⟨_, rfl, _, rfl, _, rfl, l, _, rfl, .inl (o3.seqL lb hS), b, ((nms.map V.str).length : Nat), _, rfl, B3, by omega, by omega, lt_up (show (((nms.map V.str).length : Nat) : Int).natAbs < 2 ^ 20 by rw [Int.natAbs_natCast, lm]; exact Nat.lt_of_le_of_lt ln (by decide)) (by decide), fun z H4 a0 a1 B4 F4 => ?_⟩
    obtain ⟨x, hx⟩ : ∃ x, nms[z.toNat]? = some x := ⟨_, List.getElem?_eq_getElem (by omega)⟩
    have xn := List.mem_of_getElem? hx
    have ax : atI (nms.map V.str) z = some (.str x) := by
      have := atI_nat (xs := nms.map V.str) (j := z.toNat) (v := .str x) (by rw [List.getElem?_map, hx] <;> rfl)
      rwa [show ((z.toNat : Nat) : Int) = z by omega] at this
    have o4 : Off K (· = b) H H4 := o3.seq (.box B3 F4)
    have hF4 := F4 _ _ Fb hF
    have hp4 := hp.tk (Off.box (K := K) B3 F4).tk
    refine ⟨l, _, z, _, rfl, rfl, o4.seqL lb hS, ax, ?_⟩
    refine ⟨fun σ H' => ∃ (x : Str) (y6 : Option V), σ = [some (.ref b), some (.ref Ad.m), some (.ref l), some (.ref F), some (.int (0 + (i : Int))), some (.str x), y6] ∧ PNm nms x ∧ PyData.canLay0 (.str x) = true ∧ BoxAt H' b (n + 3 + 10 * i) ∧ Off K (· = b) H H' ∧ H' F = some (.lst pvs) ∧ PoursAt K H' pvs ps, ?_, ?_⟩
    · clear ax xn hx hp4 hF4 o4 F4 B4 hp hF o3 B3
      rintro σ H5 ⟨x, y6, rfl, px, lx, B5, o5, hF5, hp5⟩
      refine ⟨fun σ H' => ∃ (x : Str) (y6 : Option V), σ = [some (.ref b), some (.ref Ad.m), some (.ref l), some (.ref F), some (.int (0 + (i : Int))), some (.str x), y6] ∧ PNm nms x ∧ PyData.canLay0 (.str x) = true ∧ BoxAt H' b (n + 4 + 10 * i) ∧ Off K (· = b) H H' ∧ H' F = some (.lst pvs) ∧ PoursAt K H' pvs ps, ?_, ?_⟩
      · clear px lx B5 o5 hF5 hp5 x
        rintro σ H6 ⟨x, y6, rfl, px, lx, B6, o6, hF6, hp6⟩
        obtain ⟨⟨vv, m1, _⟩, ⟨f, m2, m3⟩, _⟩ := rest o6
        refine ⟨_, rfl, Ad.m, _, rfl, g_room m1, Ad.rm, rfl, .inl ⟨_, m2⟩, _, rfl, rfl, fun t0 H7 s7 n7 e7 => ?_⟩
        obtain ⟨o, w, r, d, og, ew, hw, r1, r9⟩ : ∃ (o : Option V) (w : Addr) (r : Int) (d : V), DGet H7 Ad.rm (.str x) o ∧ o.getD (.ref t0) = .ref w ∧ SqT K H7 w [.int r, d] ∧ 1 ≤ r ∧ r ≤ 1000000 := by
          by_cases hx : x ∈ nms
          · obtain ⟨w, e, hw⟩ := m3 x hx
            exact ⟨_, w, (st x).room, .int ((((st x).room : Rat).den : Nat) : Int), dget_n (Same.rd s7 m2) hx, e, (show FrQ K H7 w ((st x).room : Rat) from hw.same s7), (lay x hx).2.1, (lay x hx).2.2⟩
          · exact ⟨_, t0, 9, .int 1, dget_n0 (Same.rd s7 m2) hx, rfl, SqT.of e7, by decide, by decide⟩
        refine ⟨o, og, .inr (.inl ⟨w, _, 0, _, ew, rfl, hw, at0, ?_⟩)⟩
        have B7 := B6.same s7
        refine ⟨_, rfl, .inl ⟨rfl, _, SqL.of (s7 _ _ hF6)⟩, _, rfl, _, rfl, _, rfl, b, _, r, rfl, r1, r9, B7, by omega, fun ja s w H8 jq jo s9 w9 B8 F8 => ⟨rfl, fun t H9 s9' n9 e9 => ?_⟩⟩
        have hF9 := s9' _ _ (F8 _ _ Fb (s7 _ _ hF6))
        have o9 : Off K (· = b) H H9 := ((o6.seq (.same s7)).seq (.box B7 F8)).seq (.same s9')
        have oF : Off K (· = F) H9 (upd H9 F (.lst (pvs ++ [.ref t]))) := .put hF9 .lst rfl
        have lp2 := hp6.1
        refine ⟨F, pvs, _, rfl, rfl, hF9, small' (by omega), ?_⟩
        refine ⟨_, _, _, pvs ++ [.ref t], ps ++ [(x, s, w)], rfl, oF.boxAt (fun z => Fb z.symm) ((B8.same s9').mono (by omega)), o9.fresh n1, upd_same, ?_, by rw [List.length_append, lp] <;> rfl, fun p hp => ?_⟩
        · exact ((((hp6.tk (TK.same s7)).tk (Off.box (K := K) B7 F8).tk).tk (TK.same s9')).snoc ⟨t, ja, rfl, SqT.of e9, jq.same s9'⟩).tk oF.tk
        · rcases List.mem_append.mp hp with h | h
          · exact okp p h
          · rw [List.mem_singleton.mp h]
            exact ⟨⟨px, jo⟩, lx⟩
      · refine ⟨_, rfl, b, 25, _, rfl, B5, by omega, by decide, by decide, fun z5 H6 _ _ B6 F6 => ⟨rfl, _, rfl, ?_⟩⟩
        have o6 : Off K (· = b) H H6 := o5.seq (.box B5 F6)
        have hF6 := F6 _ _ Fb hF5
        have hp6 := hp5.tk (Off.box (K := K) B5 F6).tk
        by_cases c : V.int z5 = V.int 0
        · rw [decide_eq_true c]
          exact ⟨_, _, rfl, .inr rfl, by decide +kernel, B6.mono (by omega), o6, hF6, hp6⟩
        · rw [decide_eq_false c]
          exact ⟨_, _, rfl, px, lx, B6.mono (by omega), o6, hF6, hp6⟩
    · refine ⟨_, rfl, rfl, fun e0 H5 s5 n5 h5 => ?_⟩
      have hF5 := s5 _ _ hF4
      have hp5 := hp4.tk (TK.same s5)
      have dk : Dk K H5 5 (.ref F) (.list (ps.map pourD)) := .lst hF5 (by rw [List.length_map]; exact hp5.1) (by have := hp5.1; omega) fun g v d hv hd => by
        rw [List.getElem?_map] at hd
        cases e : ps[g]? with
        | none => rw [e] at hd; cases hd
        | some p =>
          rw [e] at hd
          cases hd
          obtain ⟨t, j, rfl, ht, hj⟩ := hp5.2 g v p hv e
          exact (DtuAll.tup (.cons (.str _ _ (okp p (List.mem_of_getElem? e)).2) (.cons (hj.dtu) .nil)) ht (by show 2 ≤ 100000; decide)).dk
      obtain ⟨dp, dl, dd⟩ := dtk_plain dk
      refine ⟨.list (ps.map pourD), .list [], dp, .lst (SqL.of h5) .nil, ?_, rfl, _, rfl, ?_⟩
      · show (PyData.canLay0 (.list (ps.map pourD)) && decide (PyData.depth (.list (ps.map pourD)) ≤ 64)) = true
        rw [dl, decide_eq_true (by omega)] <;> rfl
      · have ee : PyData.eqv (.list (ps.map pourD)) (.list []) = ps.isEmpty := by cases ps <;> rfl
        rw [ee]
        have B5 := B4.same s5
        have o5 : Off K (· = b) H H5 := o4.seq (.same s5)
        cases hps : ps.isEmpty with
        | true => exact ⟨x, _, rfl, .inl xn, (lay x xn).1, B5.mono (by omega), o5, hF5, hp5⟩
        | false =>
        refine ⟨_, rfl, b, 5, _, rfl, B5, by omega, by decide, by decide, fun z5 H6 _ _ B6 F6 => ⟨rfl, _, rfl, ?_⟩⟩
        have o6 : Off K (· = b) H H6 := o5.seq (.box B5 F6)
        have hF6 := F6 _ _ Fb hF5
        have hp6 := hp5.tk (Off.box (K := K) B5 F6).tk
        by_cases c : V.int z5 = V.int 0
        · rw [decide_eq_true c]
          obtain ⟨ps0, p, rfl⟩ : ∃ ps0 p, ps = ps0 ++ [p] := by
            rcases List.eq_nil_or_concat ps with h | ⟨a, b, h⟩
            · rw [h] at hps; cases hps
            · exact ⟨a, b, by rw [h, List.concat_eq_append]⟩
          obtain ⟨pv0, v, rfl⟩ : ∃ pv0 v, pvs = pv0 ++ [v] := by
            rcases List.eq_nil_or_concat pvs with h | ⟨a, b, h⟩
            · have := hp6.1
              rw [h, List.length_append] at this
              simp at this
            · exact ⟨a, b, by rw [h, List.concat_eq_append]⟩
          have l6 := hp6.1
          rw [List.length_append, List.length_append] at l6
          have l7 : pv0.length = ps0.length := by simpa using l6
          obtain ⟨t, j, rfl, ht, hj⟩ := hp6.2 pv0.length v p (by rw [List.getElem?_append_right (Nat.le_refl _), Nat.sub_self] <;> rfl) (by rw [l7, List.getElem?_append_right (Nat.le_refl _), Nat.sub_self] <;> rfl)
          have okl := okp p (List.mem_append_right _ (List.mem_singleton.mpr rfl))
          refine ⟨_, rfl, 1, rfl, F, _, -1, _, rfl, rfl, SqL.of hF6, atI_last _ _, t, _, 0, _, rfl, rfl, ht, at0, ?_⟩
          exact ⟨p.1, _, rfl, okl.1.1, okl.2, B6.mono (by omega), o6, hF6, hp6⟩
        · rw [decide_eq_false c]
          exact ⟨x, _, rfl, .inl xn, (lay x xn).1, B6.mono (by omega), o6, hF6, hp6⟩

end
end KR
namespace KR
open PySem PySem.Spec PyProof.Rows L2
section
variable {P : Program} {w : World} {K : PySem.W.Frag} {mg : Str → Option Value} {base : Heap}
/-- a share that the law draws by, good or not -/
def ShAny (t : Rat) : Prop := t.num.natAbs ≤ 13 ∧ t.den ≤ 13
/-- a deed of the law -/
inductive DeedAt (K : PySem.W.Frag) (N : Addr → Prop) (H : Hp) (nms : List Str) (d : Addr) : Prop
  | fill (k : Int) (l : Addr) (pvs : List V) (ps : List Pour) : SqT K H d [.str "fill", .int k, .ref l] → H l = some (.lst pvs) → PoursAt K H pvs ps → N l → 1 ≤ k → k ≤ 1000000000 → ps.length ≤ 4 → (∀ p ∈ ps, PourOk nms p) → DeedAt K N H nms d
  | one (s x : Str) : SqT K H d [.str s, .str x] → s = "drain" ∨ s = "knock" → PNm nms x → DeedAt K N H nms d
  | draw (a : Addr) (t : Rat) : SqT K H d [.str "draw", .ref a] → FrQ K H a t → ShAny t → DeedAt K N H nms d
def Srt (s : Str) : Prop := s = "fill" ∨ s = "draw" ∨ s = "drain" ∨ s = "knock"
def sp_deed (K : PySem.W.Frag) : Sp := fun vs H Q _ => ∃ (b l : Addr) (n : Nat) (A : LAd) (nms : List Str) (st : Str → Mo) (v1 v2 : Rat) (lds : List PyData) (ss : List Str), vs = [.ref b, .ref A.m, .ref l] ∧ BoxAt H b n ∧ n ≤ 800000000 ∧ LawAt K H A nms st v1 v2 lds ∧ (∀ a, A.R nms a → a ≠ b) ∧ A.rm ≠ b ∧ A.dp ≠ b ∧ SqL K H l (ss.map V.str) ∧ l ≠ b ∧ ss ≠ [] ∧ ss.length ≤ 10 ∧ (∀ s ∈ ss, Srt s) ∧ nms ≠ [] ∧ nms.length ≤ 40 ∧ (∀ x ∈ nms, PyData.canLay0 (.str x) = true ∧ 1 ≤ (st x).room ∧ (st x).room ≤ 1000000) ∧
  ∀ d H', BoxAt H' b (n + 60) → Off K (· = b) H H' → DeedAt K (Nw H) H' nms d → Q (.ref d) H'
theorem ok_l_deed (T : All K mg) : FnOk P w K mg base CX0 5 T.f_l_deed T.fd_l_deed ["_law_box_here", "_law_m", "_law_sorts"] (sp_deed K) := by
  refine T.d_l_deed.fn.ok sc_l_deed (fun vs H Q E h => ?_) (fun cdv A outer s H vs Q E hr h => ?_)
  · obtain ⟨b, l, n, A, nms, st, v1, v2, lds, ss, rfl, _⟩ := h
    rfl
  · obtain ⟨b, l, n, Ad, nms, st, v1, v2, lds, ss, rfl, hB, hn, hl, rb, mb, db, hS, lb, sne, sl, srt', ne, n40, lay, q⟩ := h
    refine ⟨_, (pss_cons (ps_par (i := 3) (j := 4) (by rfl) sc_l_deed.nd rfl rfl (by decide) rfl rfl (pa_cons (pe_ix (ixL (K := K) rfl) (pv 2) (pe_call (ok_l_take T) (hr.mono (by decide)) (by rfl) T.d_l_take.mg T.d_l_take.fn.kp T.d_l_take.b .nil pass0 (pa_cons (pv 0) (pa_cons (pe_callB (lenQ (K := K) rfl) (by rfl) T.b_len PySem.boot_len (pa_cons (pv 2) pa_nil)) pa_nil))) (fun _ _ => rfl)) (pa_cons (pe_callTy (call_listD rfl) (by rfl) T.b_list (by decide +kernel) (pa_cons (pe_dget (hu_of hr) (pv 1) pe_str (fun _ _ => rfl)) pa_nil)) pa_nil)) (by rfl))
      (pss_cons (ps_set (i := 5) sc_l_deed.nd rfl (by first | exact Or.inl rfl | exact Or.inr rfl) (pe_ix (ixL (K := K) rfl) (pe_op op_catI (pe_op op_rep (pv 4) pe_int) (pe_lstI (pa_cons pe_str pa_nil))) (pe_call (ok_l_take T) (hr.mono (by decide)) (by rfl) T.d_l_take.mg T.d_l_take.fn.kp T.d_l_take.b .nil pass0 (pa_cons (pv 0) (pa_cons (pe_op op_add (pe_op op_mulX pe_int (pe_callB (lenQ (K := K) rfl) (by rfl) T.b_len PySem.boot_len (pa_cons (pv 4) pa_nil))) pe_int) pa_nil))) (fun _ _ => rfl)))
      (pss_cons (ps_if (pt_cmpR op_eq (pv 3) pe_str (nomark _)) (pss_cons (ps_set (i := 6) sc_l_deed.nd rfl (by first | exact Or.inl rfl | exact Or.inr rfl) (pe_lstI (pa_cons (pe_call (ok_l_take T) (hr.mono (by decide)) (by rfl) T.d_l_take.mg T.d_l_take.fn.kp T.d_l_take.b .nil pass0 (pa_cons (pv 0) (pa_cons pe_int pa_nil))) (pa_cons (pe_call (ok_l_take T) (hr.mono (by decide)) (by rfl) T.d_l_take.mg T.d_l_take.fn.kp T.d_l_take.b .nil pass0 (pa_cons (pv 0) (pa_cons pe_int pa_nil))) (pa_cons (pe_op op_add (pe_op op_mulX (pe_op op_pow pe_int pe_int) (pe_call (ok_l_take T) (hr.mono (by decide)) (by rfl) T.d_l_take.mg T.d_l_take.fn.kp T.d_l_take.b .nil pass0 (pa_cons (pv 0) (pa_cons pe_int pa_nil)))) (pe_call (ok_l_take T) (hr.mono (by decide)) (by rfl) T.d_l_take.mg T.d_l_take.fn.kp T.d_l_take.b .nil pass0 (pa_cons (pv 0) (pa_cons (pe_op op_pow pe_int pe_int) pa_nil)))) pa_nil)))))
      (pss_one (ps_ret (pe_tupI (pa_cons pe_str (pa_cons (pe_op op_add pe_int (pe_ix (ixL (K := K) rfl) (pv 6) (pe_call (ok_l_take T) (hr.mono (by decide)) (by rfl) T.d_l_take.mg T.d_l_take.fn.kp T.d_l_take.b .nil pass0 (pa_cons (pv 0) (pa_cons pe_int pa_nil))) (fun _ _ => rfl))) (pa_cons (pe_call (ok_l_pours T) hr (by rfl) T.d_l_pours.mg T.d_l_pours.fn.kp T.d_l_pours.b .nil pass0 (pa_cons (pv 0) (pa_cons (pv 1) (pa_cons (pv 4) pa_nil)))) pa_nil))))))) pss_nil)
      (pss_cons (ps_if (pt_cmpR op_eq (pv 3) pe_str (nomark _)) (pss_one (ps_ret (pe_tupI (pa_cons pe_str (pa_cons (pe_ix (ixL (K := K) rfl) (pe_lstI (pa_cons (pe_call (ok_l_share T) (hr.mono (by decide)) (by rfl) T.d_l_share.mg T.d_l_share.fn.kp T.d_l_share.b .nil pass0 (pa_cons (pv 0) pa_nil)) (pa_cons (pe_tupI (pa_cons pe_int (pa_cons pe_int pa_nil))) (pa_cons (pe_tupI (pa_cons pe_int (pa_cons pe_int pa_nil))) (pa_cons (pe_tupI (pa_cons pe_int (pa_cons pe_int pa_nil))) pa_nil))))) (pe_callB (call_max2 rfl) (by rfl) T.b_max (by decide +kernel) (pa_cons pe_int (pa_cons (pe_op op_sub (pe_call (ok_l_take T) (hr.mono (by decide)) (by rfl) T.d_l_take.mg T.d_l_take.fn.kp T.d_l_take.b .nil pass0 (pa_cons (pv 0) (pa_cons pe_int pa_nil))) pe_int) pa_nil))) (fun _ _ => rfl)) pa_nil))))) pss_nil)
      (pss_one (ps_ret (pe_tupI (pa_cons (pv 3) (pa_cons (pv 5) pa_nil))))))))), ?_⟩
    have rest : ∀ {H' : Hp}, Off K (· = b) H H' → LawAt K H' Ad nms st v1 v2 lds := fun o => hl.off o rb mb db
    have lm : (ss.map V.str).length = ss.length := List.length_map _
    have s0 : 0 < ss.length := by
      cases ss with
      | nil => exact absurd rfl sne
      | cons => exact Nat.succ_pos _
    have l0 : 0 < nms.length := by
      cases nms with
      | nil => exact absurd rfl ne
      | cons => exact Nat.succ_pos _
    refine ⟨_, rfl, _, rfl, _, rfl, l, _, rfl, .inl hS, b, ((ss.map V.str).length : Nat), _, rfl, hB, by omega, by omega, by omega, fun z H1 a0 a1 B1 F1 => ?_⟩
    have o1 : Off K (· = b) H H1 := .box hB F1
    obtain ⟨so, hso⟩ : ∃ x, ss[z.toNat]? = some x := ⟨_, List.getElem?_eq_getElem (by omega)⟩
    have ax : atI (ss.map V.str) z = some (.str so) := by
      have := atI_nat (xs := ss.map V.str) (j := z.toNat) (v := .str so) (by rw [List.getElem?_map, hso] <;> rfl)
      rwa [show ((z.toNat : Nat) : Int) = z by omega] at this
    have hsr := srt' so (List.mem_of_getElem? hso)
    refine ⟨l, _, z, _, rfl, rfl, o1.seqL lb hS, ax, ?_⟩
    obtain ⟨⟨vv, m1, _⟩, ⟨fr, r1, _⟩, _⟩ := rest o1
    refine ⟨_, rfl, Ad.m, _, rfl, g_room m1, Ad.rm, _, rfl, r1, fun L nL => ?_⟩
    rw [byN_keys]
    have s2 : Same H1 (upd H1 L (.lst (nms.map V.str))) := same_new nL
    have hL2 : (upd H1 L (.lst (nms.map V.str))) L = some (.lst (nms.map V.str)) := upd_same
    generalize upd H1 L (.lst (nms.map V.str)) = H2 at s2 hL2
    have Lb : L ≠ b := fun e => B1.new nL e
    refine ⟨_, _, rfl, ?_⟩
    have o2 : Off K (· = b) H H2 := o1.seq (.same s2)
    refine ⟨_, rfl, L, 9, _, rfl, rfl, hL2, by decide, by decide, by rw [List.length_map]; exact small (by show nms.length * 9 ≤ 100000; omega), fun R nR => ?_⟩
    have s3 : Same H2 (upd H2 R (.lst (List.replicate (9 : Int).toNat (nms.map V.str)).flatten)) := same_new nR
    have hR3 : (upd H2 R (.lst (List.replicate (9 : Int).toNat (nms.map V.str)).flatten)) R = some (.lst (List.replicate (9 : Int).toNat (nms.map V.str)).flatten) := upd_same
    generalize upd H2 R (.lst (List.replicate (9 : Int).toNat (nms.map V.str)).flatten) = H3 at s3 hR3
    refine ⟨rfl, fun q0 H4 s4 n4 h4 => ?_⟩
    have fl : (List.replicate (9 : Int).toNat (nms.map V.str)).flatten = ((List.replicate 9 nms).flatten).map V.str := by
      rw [List.map_flatten, List.map_replicate] <;> rfl
    have fn : ((List.replicate 9 nms).flatten).length = 9 * nms.length := by
      rw [List.length_flatten, List.map_replicate, List.sum_replicate_nat]
    rw [fl] at hR3
    refine ⟨R, q0, _, _, rfl, rfl, s4 _ _ hR3, h4, by rw [List.length_map, fn]; exact small (by show 9 * nms.length + 1 ≤ 100000; omega), fun W H5 s5 n5 hW => ?_⟩
    have s25 := s3.trans (s4.trans s5)
    have o5 : Off K (· = b) H H5 := o2.seq (.same s25)
    have B5 := (B1.same s2).same s25
    have hL5 := s25 _ _ hL2
    obtain ⟨ws, ews, wl, wok⟩ : ∃ ws : List Str, ((List.replicate 9 nms).flatten).map V.str ++ [V.str "qmould"] = ws.map V.str ∧ ws.length = 9 * nms.length + 1 ∧ ∀ x ∈ ws, PNm nms x := by
      refine ⟨(List.replicate 9 nms).flatten ++ [("qmould" : Str)], by rw [List.map_append] <;> rfl, by rw [List.length_append, fn] <;> rfl, fun x hx => ?_⟩
      rcases List.mem_append.mp hx with h | h
      · obtain ⟨y, hy, hxy⟩ := List.mem_flatten.mp h
        rw [List.mem_replicate] at hy
        exact .inl (hy.2 ▸ hxy)
      · exact .inr (List.mem_singleton.mp h)
    have hW' : H5 W = some (.lst (ws.map V.str)) := by rw [← ews]; exact hW
    have Wb : W ≠ b := fun e => ((B1.same s2).same (s3.trans s4)).new n5 e
    have lnm : (nms.map V.str).length = nms.length := List.length_map _
    refine ⟨_, rfl, _, rfl, L, _, rfl, .inl (SqL.of hL5), _, _, rfl, rfl, ?_⟩
    refine ⟨by rw [lnm]; exact mulZ (a := 4) (b := 20) (by decide) (by rw [Int.natAbs_natCast]; exact Nat.lt_of_le_of_lt n40 (by decide)) (by omega), ?_⟩
    refine ⟨_, _, rfl, rfl, b, _, _, rfl, B5, by omega, by rw [lnm]; omega, lt_up (show (9 * (((nms.map V.str).length : Nat) : Int) + 1).natAbs < 2 ^ 20 by rw [lnm]; omega) (by decide), fun z2 H6 c0 c1 B6 F6 => ?_⟩
    rw [lnm] at c1
    obtain ⟨x, hx⟩ : ∃ x, ws[z2.toNat]? = some x := ⟨_, List.getElem?_eq_getElem (by omega)⟩
    have ax2 : atI (ws.map V.str) z2 = some (.str x) := by
      have := atI_nat (xs := ws.map V.str) (j := z2.toNat) (v := .str x) (by rw [List.getElem?_map, hx] <;> rfl)
      rwa [show ((z2.toNat : Nat) : Int) = z2 by omega] at this
    have px := wok x (List.mem_of_getElem? hx)
    have o6 : Off K (· = b) H H6 := o5.seq (.box B5 F6)
    have hL6 := F6 _ _ Lb hL5
    refine ⟨W, _, z2, _, rfl, rfl, SqL.of (F6 _ _ Wb hW'), ax2, ?_⟩
    clear ax2 ax hW hW' B5 F6 hL5 hR3 h4 nL hL2 B1 F1
    have n1 : V.str (Str.ofString "drain") ≠ V.str (Str.ofString "fill") := fun z => absurd (V.str.inj z) (by decide +kernel)
    have n2 : V.str (Str.ofString "knock") ≠ V.str (Str.ofString "fill") := fun z => absurd (V.str.inj z) (by decide +kernel)
    have n4 : V.str (Str.ofString "draw") ≠ V.str (Str.ofString "fill") := fun z => absurd (V.str.inj z) (by decide +kernel)
    have n5' : V.str (Str.ofString "drain") ≠ V.str (Str.ofString "draw") := fun z => absurd (V.str.inj z) (by decide +kernel)
    have n6 : V.str (Str.ofString "knock") ≠ V.str (Str.ofString "draw") := fun z => absurd (V.str.inj z) (by decide +kernel)
    refine ⟨_, rfl, rfl, _, rfl, ?_⟩
    rcases hsr with rfl | rfl | rfl | rfl
    · rw [decide_eq_true rfl]
      refine iteT ?_
      refine ⟨_, rfl, b, 3, _, rfl, B6, by omega, by decide, by decide, fun y1 H7 e0 e1 B7 F7 => ⟨_, rfl, b, 12, _, rfl, B7, by omega, by decide, by decide, fun y2 H8 f0 f1 B8 F8 => ?_⟩⟩
      have e6 : (10 : Int) ^ (6 : Int).toNat = 1000000 := by decide
      refine ⟨_, _, rfl, rfl, ⟨by decide, by decide, by decide⟩, ?_⟩
      refine ⟨_, rfl, b, 1000, _, rfl, B8, by omega, by decide, by decide, fun y3 H9 g0 g1 B9 F9 => ⟨_, _, rfl, rfl, mulZ (a := 20) (b := 10) (by decide) (by omega) (by omega), ?_⟩⟩
      refine ⟨_, rfl, _, _, rfl, rfl, ⟨by decide, by decide, by decide⟩, b, _, _, rfl, B9, by omega, by decide, by decide, fun y4 HA i0 i1 BA FA => ⟨_, _, rfl, rfl, rfl, fun sm HB sB nB hB => ?_⟩⟩
      rw [e6] at i1 hB
      have BB := BA.same sB
      have smb : sm ≠ b := BA.new nB
      have oB : Off K (· = b) H HB := ((((o6.seq (.box B6 F7)).seq (.box B7 F8)).seq (.box B8 F9)).seq (.box B9 FA)).seq (.same sB)
      have hLB : HB L = some (.lst (nms.map V.str)) := sB _ _ (FA _ _ Lb (F9 _ _ Lb (F8 _ _ Lb (F7 _ _ Lb hL6))))
      refine ⟨_, rfl, _, rfl, b, 3, _, rfl, BB, by omega, by decide, by decide, fun y5 HC j0 j1 BC FC => ?_⟩
      obtain ⟨kk, ek, k0, k1⟩ : ∃ kk : Int, atI [V.int y1, .int y2, .int (1000000 * y3 + y4)] y5 = some (.int kk) ∧ 0 ≤ kk ∧ kk < 1000000000 := by
        have w : y5 = 0 ∨ y5 = 1 ∨ y5 = 2 := by omega
        rcases w with e | e | e <;> subst e
        · exact ⟨_, rfl, e0, by omega⟩
        · exact ⟨_, rfl, f0, by omega⟩
        · exact ⟨_, rfl, by omega, by omega⟩
      have oC : Off K (· = b) H HC := oB.seq (.box BB FC)
      refine ⟨sm, _, y5, _, rfl, rfl, SqL.of (FC _ _ smb hB), ek, _, _, rfl, rfl, ?_⟩
      refine ⟨_, rfl, _, rfl, _, rfl, b, L, _, Ad, nms, st, v1, v2, lds, rfl, BC, by omega, rest oC, rb, mb, db, SqL.of (FC _ _ Lb hLB), Lb, ne, lay, fun pl HD pvs ps BD oD nD hD hp p1 p4 pok => ⟨rfl, fun d HE sE nE hE => ?_⟩⟩
      exact q d HE ((BD.same sE).mono (by omega)) ((oC.seq oD).seq (.same sE)) (.fill (1 + kk) pl pvs ps (SqT.of hE) (sE _ _ hD) (hp.tk (TK.same sE)) (Nw.back oC (BC.new nD) (.of nD)) (by omega) (by omega) p4 pok)
    · rw [decide_eq_false n4]
      refine iteF ?_
      refine ⟨_, rfl, rfl, _, rfl, ?_⟩
      rw [decide_eq_true rfl]
      refine iteT ?_
      refine ⟨_, rfl, b, _, rfl, B6, by omega, fun sa t H7 sok t0 t1 ft B7 F7 => ⟨rfl, fun u1 H8 s8 n8 h8 => ⟨rfl, fun u2 H9 s9 n9 h9 => ⟨rfl, fun u3 HA sA nA hA => ⟨rfl, fun sl' HB sB nB hB => ?_⟩⟩⟩⟩⟩
      have BB := (((B7.same s8).same s9).same sA).same sB
      have slb : sl' ≠ b := (((B7.same s8).same s9).same sA).new nB
      refine ⟨_, rfl, b, 24, _, rfl, BB, by omega, by decide, by decide, fun y HC c0 c1 BC FC => ⟨_, _, rfl, rfl, _, _, rfl, ?_⟩⟩
      have oB : Off K (· = b) H HB := (((((o6.seq (.box B6 F7)).seq (.same s8)).seq (.same s9)).seq (.same sA)).seq (.same sB))
      have oC : Off K (· = b) H HC := oB.seq (.box BB FC)
      have tC : TK K HB HC := (Off.box (K := K) BB FC).tk
      have d1 : ShAny (rq 0 1) ∧ (rq 0 1).num = 0 ∧ ((rq 0 1).den : Int) = 1 := by unfold ShAny; decide +kernel
      have d2 : ShAny (rq 13 12) ∧ (rq 13 12).num = 13 ∧ ((rq 13 12).den : Int) = 12 := by unfold ShAny; decide +kernel
      have d3 : ShAny (rq 1 13) ∧ (rq 1 13).num = 1 ∧ ((rq 1 13).den : Int) = 13 := by unfold ShAny; decide +kernel
      obtain ⟨aa, tt, hv, hq, hok⟩ : ∃ (aa : Addr) (tt : Rat), atI [V.ref sa, .ref u1, .ref u2, .ref u3] (if y - 20 > 0 then y - 20 else 0) = some (.ref aa) ∧ FrQ K HB aa tt ∧ ShAny tt := by
        have f1 : FrQ K HB u1 (rq 0 1) := by
          show SqT K HB u1 [.int (rq 0 1).num, .int ((rq 0 1).den : Int)]
          rw [d1.2.1, d1.2.2]
          exact SqT.of (sB _ _ (sA _ _ (s9 _ _ h8)))
        have f2 : FrQ K HB u2 (rq 13 12) := by
          show SqT K HB u2 [.int (rq 13 12).num, .int ((rq 13 12).den : Int)]
          rw [d2.2.1, d2.2.2]
          exact SqT.of (sB _ _ (sA _ _ h9))
        have f3 : FrQ K HB u3 (rq 1 13) := by
          show SqT K HB u3 [.int (rq 1 13).num, .int ((rq 1 13).den : Int)]
          rw [d3.2.1, d3.2.2]
          exact SqT.of (sB _ _ hA)
        by_cases c : y - 20 > 0
        · rw [if_pos c]
          have w : y = 21 ∨ y = 22 ∨ y = 23 := by omega
          rcases w with e | e | e <;> subst e
          · exact ⟨u1, _, rfl, f1, d1.1⟩
          · exact ⟨u2, _, rfl, f2, d2.1⟩
          · exact ⟨u3, _, rfl, f3, d3.1⟩
        · rw [if_neg c]
          exact ⟨sa, t, rfl, (((ft.same s8).same s9).same sA).same sB, by obtain ⟨k1, k2, k3⟩ := sok; omega, by obtain ⟨k1, k2, k3⟩ := sok; omega⟩
      refine ⟨sl', _, _, _, rfl, rfl, SqL.of (FC _ _ slb hB), hv, rfl, fun d HD sD nD hD => ?_⟩
      exact q d HD ((BC.same sD).mono (by omega)) (oC.seq (.same sD)) (.draw aa tt (SqT.of hD) ((hq.tk tC).same sD) hok)
    · rw [decide_eq_false n1]
      refine iteF ?_
      refine ⟨_, rfl, rfl, _, rfl, ?_⟩
      rw [decide_eq_false n5']
      refine iteF ?_
      exact ⟨_, rfl, _, rfl, rfl, fun d H7 s7 n7 h7 => q d H7 ((B6.same s7).mono (by omega)) (o6.seq (.same s7)) (.one _ x (SqT.of h7) (.inl rfl) px)⟩
    · rw [decide_eq_false n2]
      refine iteF ?_
      refine ⟨_, rfl, rfl, _, rfl, ?_⟩
      rw [decide_eq_false n6]
      refine iteF ?_
      exact ⟨_, rfl, _, rfl, rfl, fun d H7 s7 n7 h7 => q d H7 ((B6.same s7).mono (by omega)) (o6.seq (.same s7)) (.one _ x (SqT.of h7) (.inr rfl) px)⟩

end
end KR
namespace KR
open PySem PySem.Spec PyProof.Rows L2
section
variable {P : Program} {w : World} {K : PySem.W.Frag} {mg : Str → Option Value} {base : Heap}
/-! one turn of deeds on moulds: the law's book and the program's moulds go on alike -/
theorem zsum_le_of {l : List Rat} (h : ∀ q ∈ l, 0 ≤ q) : ∀ q ∈ l, q ≤ zsum l := by
  induction l with
  | nil => intro q hq; cases hq
  | cons a r ih =>
    intro q hq
    have h1 := h a List.mem_cons_self
    have h2 := zsum_nn (l := r) fun y hy => h y (List.mem_cons_of_mem _ hy)
    show q ≤ a + zsum r
    rcases List.mem_cons.mp hq with e | e
    · rw [e]; grind
    · have := ih (fun y hy => h y (List.mem_cons_of_mem _ hy)) q e
      grind
theorem zsum_put {q : Int → Rat} {k : Int} {v : Rat} : ∀ {ks : List Int}, ks.Nodup → k ∈ ks → zsum (ks.map (set1 q k v)) + q k = zsum (ks.map q) + v
  | a :: r, nd, h => by
    rw [List.nodup_cons] at nd
    show set1 q k v a + zsum (r.map (set1 q k v)) + q k = q a + zsum (r.map q) + v
    by_cases e : a = k
    · have e2 : r.map (set1 q k v) = r.map q := List.map_congr_left fun y hy => set1_ne (fun z => nd.1 (by rw [e, ← z]; exact hy))
      rw [e2, e, set1_same]
      grind
    · have ih := zsum_put (q := q) (v := v) nd.2 ((List.mem_cons.mp h).resolve_left fun z => e z.symm)
      rw [set1_ne e]
      grind
theorem bear_tot {m : Mo} {k : Int} {s : Rat} (nd : m.ks.Nodup) : (m.bear k s).tot = m.tot + s := by
  show zsum ((addK m.ks k).map (set1 m.q k ((if k ∈ m.ks then m.q k else 0) + s))) = zsum (m.ks.map m.q) + s
  by_cases h : k ∈ m.ks
  · rw [if_pos h, addK_in h]
    have := zsum_put (q := m.q) (v := m.q k + s) nd h
    grind
  · rw [if_neg h]
    unfold addK
    rw [if_neg h, List.map_append, zsum_app]
    have e2 : m.ks.map (set1 m.q k (0 + s)) = m.ks.map m.q := List.map_congr_left fun y hy => set1_ne (fun z => h (by rw [← z]; exact hy))
    rw [e2]
    show _ + (set1 m.q k (0 + s) k + 0) = _
    rw [set1_same]
    grind
theorem sz200 {M B : Nat} {q : Rat} (h : Dv M q) (m0 : 0 < M) (m9 : M < 2 ^ 100) (lo : 0 ≤ q) (hi : q ≤ ((B : Int) : Rat)) (b1 : 1 ≤ B) (b9 : B < 2 ^ 99) : Sz 200 q := h.szN m0 lo hi b1 (fit_lt m9 b9 (by decide))
theorem Sz.big {n : Nat} {q : Rat} (h : Sz n q) (le : n ≤ 4400) : Big q := h.up le
theorem cast_le {i j : Nat} (h : i ≤ j) : ((i : Int) : Rat) ≤ ((j : Int) : Rat) := Rat.intCast_le_intCast.mpr (by omega)
theorem cast_one {i : Nat} : (((i + 1 : Nat) : Int) : Rat) = ((i : Int) : Rat) + 1 := by rw [Int.natCast_add, Rat.intCast_add] <;> rfl
theorem mil_hi {x : Rat} {c : Nat} (h : x ≤ 1000000 * ((c : Int) : Rat)) (c9 : c ≤ 20) : x ≤ (((20000000 : Nat) : Int) : Rat) := by
  have k := cast_le c9
  have e : (((20000000 : Nat) : Int) : Rat) = 1000000 * (((20 : Nat) : Int) : Rat) := by decide +kernel
  rw [e]
  grind
theorem mul_le {a b : Rat} (ha : 0 ≤ a) (hb : b ≤ 1) : a * b ≤ a := by
  have := Rat.mul_le_mul_of_nonneg_left hb ha
  rw [Rat.mul_one] at this
  exact this
/-- what a mould bears, behind so many pours; c millions of sugar at most -/
structure QInv (c j : Nat) (m : Mo) : Prop where
  nd : m.ks.Nodup
  len : m.ks.length ≤ j
  q0 : ∀ k ∈ m.ks, 0 < m.q k
  qd : ∀ k ∈ m.ks, Dv 960 (m.q k)
  t9 : m.tot ≤ 1000000 * ((c : Int) : Rat)
/-- a mould in these laws -/
structure JInv (c j : Nat) (m : Mo) : Prop extends QInv c j m where
  r0 : 1 ≤ m.room
  r1 : m.room ≤ 1000000
  d0 : 0 ≤ m.drip
  d1 : m.drip < 1
  dd : m.drip.den ≤ 12
  sum : m.s = m.tot * m.left
  w0 : 0 ≤ m.w
  w9 : m.w ≤ 1000000 * ((c : Int) : Rat)
  wd : Dv 413 m.w
  cz : m.cur = true → m.w = 0
  kz : m.ks = [] → m.w = 0
namespace QInv
variable {c j : Nat} {m : Mo}
theorem mono (h : QInv c j m) {c' j' : Nat} (k : c ≤ c') (l : j ≤ j') : QInv c' j' m := by
  have k := cast_le k
  refine ⟨h.nd, Nat.le_trans h.len l, h.q0, h.qd, ?_⟩
  have := h.t9; grind
theorem nn (h : QInv c j m) : ∀ q ∈ m.ks.map m.q, 0 ≤ q := fun q hq => by
  obtain ⟨k, hk, rfl⟩ := List.mem_map.mp hq
  exact Rat.le_of_lt (h.q0 k hk)
theorem tot0 (h : QInv c j m) : 0 ≤ m.tot := zsum_nn h.nn
theorem totd (h : QInv c j m) : Dv 960 m.tot := Dv.all fun q hq => by
  obtain ⟨k, hk, rfl⟩ := List.mem_map.mp hq
  exact h.qd k hk
theorem q9 (h : QInv c j m) {k : Int} (hk : k ∈ m.ks) : m.q k ≤ m.tot := zsum_le_of h.nn _ (List.mem_map.mpr ⟨k, hk, rfl⟩)
theorem tpos (h : QInv c j m) (ne : m.ks ≠ []) : 0 < m.tot := by
  cases e : m.ks with
  | nil => exact absurd e ne
  | cons a r =>
    have ha : a ∈ m.ks := by rw [e]; exact List.mem_cons_self
    have h1 := h.q0 a ha
    have h2 := h.q9 ha
    grind
theorem qbig (h : QInv c j m) (c9 : c ≤ 20) {k : Int} (hk : k ∈ m.ks) : Big (m.q k) :=
  (sz200 (h.qd k hk) (by decide) (by decide) (Rat.le_of_lt (h.q0 k hk)) (Rat.le_trans (h.q9 hk) (mil_hi h.t9 c9)) (by decide) (by decide)).big (by decide)
theorem bear (h : QInv c j m) {s w : Rat} (ju : JuOk s w) (k : Int) {a b : Rat} : QInv (c + 1) (j + 1) ((m.poured a b).bear k s) := by
  have nd' : (m.poured a b).ks.Nodup := h.nd
  have tt := bear_tot (m := m.poured a b) (k := k) (s := s) nd'
  have hq : ∀ y ∈ addK m.ks k, (0 < set1 m.q k ((if k ∈ m.ks then m.q k else 0) + s) y) ∧ Dv 960 (set1 m.q k ((if k ∈ m.ks then m.q k else 0) + s) y) := fun y hy => by
    by_cases e : y = k
    · subst e
      rw [set1_same]
      by_cases c : y ∈ m.ks
      · rw [if_pos c]
        have a1 := h.q0 y c
        have a2 := ju.s0
        exact ⟨by grind, (h.qd y c).add ju.sd⟩
      · rw [if_neg c]
        have a2 := ju.s0
        exact ⟨by grind, Dv.zero.add ju.sd⟩
    · rw [set1_ne e]
      have c := (mem_addK.mp hy).resolve_right e
      exact ⟨h.q0 y c, h.qd y c⟩
  refine ⟨addK_nodup h.nd, ?_, fun y hy => (hq y hy).1, fun y hy => (hq y hy).2, ?_⟩
  · have := addK_len (l := m.ks) (x := k)
    have := h.len
    show (addK m.ks k).length ≤ j + 1
    omega
  · rw [tt, cast_one]
    have := h.t9
    have := ju.s1
    show m.tot + s ≤ _
    grind
end QInv
namespace JInv
variable {c j : Nat} {m : Mo}
theorem mono (h : JInv c j m) {c' j' : Nat} (k : c ≤ c') (l : j ≤ j') : JInv c' j' m := by
  refine ⟨h.toQInv.mono k l, h.r0, h.r1, h.d0, h.d1, h.dd, h.sum, h.w0, ?_, h.wd, h.cz, h.kz⟩
  have k := cast_le k
  have := h.w9; grind
theorem lens (h : JInv c j m) {j' : Nat} (l : m.ks.length ≤ j') : JInv c j' m := ⟨⟨h.nd, l, h.q0, h.qd, h.t9⟩, h.r0, h.r1, h.d0, h.d1, h.dd, h.sum, h.w0, h.w9, h.wd, h.cz, h.kz⟩
theorem part (h : JInv c j m) : Part m.drip := ⟨h.d0, Rat.le_of_lt h.d1, h.dd⟩
theorem left_pos (h : JInv c j m) : 0 < m.left ∧ m.left ≤ 1 := by
  have h0 := h.d0
  have h1 := h.d1
  unfold Mo.left
  split
  · constructor <;> grind
  · constructor <;> grind
theorem left_dv (h : JInv c j m) : Dv 27720 m.left := by
  have k := h.part.dv
  unfold Mo.left
  split
  · exact (Dv.int (M := 27720) 1).sub k
  · exact Dv.int 1
theorem s0 (h : JInv c j m) : 0 ≤ m.s := by rw [h.sum]; exact Rat.mul_nonneg h.tot0 (Rat.le_of_lt h.left_pos.1)
theorem s9 (h : JInv c j m) : m.s ≤ m.tot := by rw [h.sum]; exact mul_le h.tot0 h.left_pos.2
theorem sDv (h : JInv c j m) : Dv (960 * 27720) m.s := by rw [h.sum]; exact h.totd.mul h.left_dv
theorem some (h : JInv c j m) (ne : m.ks ≠ []) : ¬ (m.s = 0 ∧ m.w = 0) := fun z => by
  have a := Rat.mul_pos (h.tpos ne) h.left_pos.1
  rw [← h.sum, z.1] at a
  exact Rat.lt_irrefl a
theorem none (h : JInv c j m) (e : m.ks = []) : m.s = 0 ∧ m.w = 0 := by
  refine ⟨?_, h.kz e⟩
  have t : m.tot = 0 := by
    show zsum (m.ks.map m.q) = 0
    rw [e] <;> rfl
  rw [h.sum, t, Rat.zero_mul]
theorem fit (h : JInv c j m) (c9 : c ≤ 20) (j9 : j < 64) : m.Fit2 := by
  have t18 := mil_hi h.t9 c9
  have w18 := mil_hi h.w9 c9
  have t0 := h.tot0
  obtain ⟨l0, l1⟩ := h.left_pos
  have ld := h.left_dv
  have pd := h.part.dv
  have stot : Sz 200 m.tot := sz200 h.totd (by decide) (by decide) t0 t18 (by decide) (by decide)
  have tk0 : ∀ i, 0 ≤ zsum ((m.ks.map m.q).take i) := fun i => zsum_nn fun q hq => h.nn q (List.mem_of_mem_take hq)
  have tkd : ∀ i, Dv 960 (zsum ((m.ks.map m.q).take i)) := fun i => Dv.all fun q hq => by
    obtain ⟨k, hk, rfl⟩ := List.mem_map.mp (List.mem_of_mem_take hq)
    exact h.qd k hk
  have tkl : ∀ i, zsum ((m.ks.map m.q).take i) ≤ m.tot := fun i => zsum_take_le h.nn i
  have ln0 := Rat.le_of_lt l0
  have pl0 : ∀ {x : Rat}, 0 ≤ x → 0 ≤ x * m.left := fun hx => Rat.mul_nonneg hx ln0
  have sd : Sz 200 m.drip := sz200 (B := 1) pd (by decide) (by decide) h.d0 (Rat.le_of_lt h.d1) (by decide) (by decide)
  have sS := h.s9
  have s0 := h.s0
  have sDv := h.sDv
  refine ⟨⟨h.nd, by have := h.len; omega, fun k hk => h.qbig c9 hk, fun i _ => (sz200 (tkd i) (by decide) (by decide) (tk0 i) (Rat.le_trans (tkl i) t18) (by decide) (by decide)).big (by decide), fun ne => Rat.ne_of_gt (h.tpos ne), (sz200 sDv (by decide) (by decide) s0 (Rat.le_trans sS t18) (by decide) (by decide)).big (by decide), (sz200 h.wd (by decide) (by decide) h.w0 w18 (by decide) (by decide)).big (by decide), sd.big (by decide),
    (sz200 (sDv.mul pd) (by decide) (by decide) (Rat.mul_nonneg s0 h.d0) (Rat.le_trans (mul_le s0 (Rat.le_of_lt h.d1)) (Rat.le_trans sS t18)) (by decide) (by decide)).big (by decide)⟩, fun i _ => ?_, fun k hk => ?_, ?_, Rat.ne_of_gt l0, ?_, fun ne => Rat.mul_pos (h.tpos ne) l0, h.sum⟩
  · have e : zsum ((m.ks.map fun k => m.q k * m.left).take i) = zsum ((m.ks.map m.q).take i) * m.left := by
      rw [← List.map_take, ← List.map_take, zsum_scale]
    rw [e]
    exact (sz200 ((tkd i).mul ld) (by decide) (by decide) (pl0 (tk0 i)) (Rat.le_trans (mul_le (tk0 i) l1) (Rat.le_trans (tkl i) t18)) (by decide) (by decide)).big (by decide)
  · have q0 := Rat.le_of_lt (h.q0 k hk)
    exact (sz200 ((h.qd k hk).mul ld) (by decide) (by decide) (pl0 q0) (Rat.le_trans (mul_le q0 l1) (Rat.le_trans (h.q9 hk) t18)) (by decide) (by decide)).big (by decide)
  · rw [← h.sum]
    exact (sz200 sDv (by decide) (by decide) s0 (Rat.le_trans sS t18) (by decide) (by decide)).big (by decide)
  · have h0 := h.d0
    have h1 := h.d1
    exact (sz200 (B := 1) ((Dv.int (M := 27720) 1).sub pd) (by decide) (by decide) (by have : ((1 : Int) : Rat) = 1 := rfl; grind) (by have : (((1 : Nat) : Int) : Rat) = 1 := rfl; have : ((1 : Int) : Rat) = 1 := rfl; grind) (by decide) (by decide)).big (by decide)
theorem pour (h : JInv c j m) (hc : m.cur = false) {s w : Rat} (ju : JuOk s w) (k : Int) : JInv (c + 1) (j + 1) ((m.poured (m.s + s) (m.w + w)).bear k s) := by
  have nd' : (m.poured (m.s + s) (m.w + w)).ks.Nodup := h.nd
  have tt := bear_tot (m := m.poured (m.s + s) (m.w + w)) (k := k) (s := s) nd'
  have l1 : m.left = 1 := by unfold Mo.left; rw [hc] <;> rfl
  have l2 : ((m.poured (m.s + s) (m.w + w)).bear k s).left = 1 := by
    show (if m.cur = true then 1 - m.drip else 1) = 1
    rw [hc] <;> rfl
  refine ⟨h.toQInv.bear ju k, h.r0, h.r1, h.d0, h.d1, h.dd, ?_, ?_, ?_, h.wd.add ju.wd, fun z => ?_, fun z => ?_⟩
  · rw [tt, l2]
    show m.s + s = (m.tot + s) * 1
    rw [h.sum, l1]
    grind
  · have := h.w0
    have := ju.w0
    show 0 ≤ m.w + w
    grind
  · rw [cast_one]
    have := h.w9
    have := ju.w1
    show m.w + w ≤ _
    grind
  · exact absurd (hc.symm.trans (show m.cur = true from z)) (by decide)
  · have z : addK m.ks k = [] := z
    have : k ∈ addK m.ks k := mem_addK.mpr (.inr rfl)
    rw [z] at this
    cases this
theorem tight (h : JInv c j m) (hc : m.cur = false) (v : m.s + m.w ≤ (m.room : Rat)) : JInv 1 j m := by
  have e1 : ((((1 : Nat) : Int)) : Rat) = 1 := rfl
  have l1 : m.left = 1 := by unfold Mo.left; rw [hc] <;> rfl
  have e := h.sum
  rw [l1, Rat.mul_one] at e
  have r : (m.room : Rat) ≤ ((1000000 : Int) : Rat) := Rat.intCast_le_intCast.mpr h.r1
  have r2 : ((1000000 : Int) : Rat) = 1000000 := by decide +kernel
  have w0 := h.w0
  have t0 := h.tot0
  refine ⟨⟨h.nd, h.len, h.q0, h.qd, ?_⟩, h.r0, h.r1, h.d0, h.d1, h.dd, h.sum, h.w0, ?_, h.wd, h.cz, h.kz⟩
  · rw [e1, ← e]
    rw [r2] at r
    grind
  · rw [e1]
    rw [r2] at r
    have := h.s0
    grind
theorem drained (h : JInv c j m) (hc : m.cur = false) : JInv c j m.drained := by
  have l1 : m.left = 1 := by unfold Mo.left; rw [hc] <;> rfl
  refine ⟨⟨h.nd, h.len, h.q0, h.qd, h.t9⟩, h.r0, h.r1, h.d0, h.d1, h.dd, ?_, Rat.le_refl, ?_, Dv.zero, fun _ => rfl, fun _ => rfl⟩
  · show m.s - m.s * m.drip = m.tot * (1 - m.drip)
    rw [h.sum, l1]
    grind
  · have a := h.w0
    have b := h.w9
    show (0 : Rat) ≤ _
    grind
theorem cleared (h : JInv c j m) : JInv c j m.cleared := by
  have a := h.w0
  have b := h.w9
  refine ⟨⟨List.nodup_nil, Nat.zero_le _, fun k hk => absurd hk List.not_mem_nil, fun k hk => absurd hk List.not_mem_nil, ?_⟩, h.r0, h.r1, h.d0, h.d1, h.dd, ?_, Rat.le_refl, ?_, Dv.zero, fun _ => rfl, fun _ => rfl⟩
  · show (0 : Rat) ≤ _
    grind
  · show (0 : Rat) = 0 * _
    rw [Rat.zero_mul]
  · show (0 : Rat) ≤ _
    grind
theorem init {z : RM} (h : RmOk z) : JInv 1 0 (mo0 z.2.1 z.2.2) := by
  have e1 : ((((1 : Nat) : Int)) : Rat) = 1 := rfl
  refine ⟨⟨List.nodup_nil, Nat.le_refl _, fun k hk => absurd hk List.not_mem_nil, fun k hk => absurd hk List.not_mem_nil, ?_⟩, h.r0, h.r1, h.d0, h.d1, h.dd, ?_, Rat.le_refl, ?_, Dv.zero, fun _ => rfl, fun _ => rfl⟩
  · show (0 : Rat) ≤ _
    rw [e1]
    decide +kernel
  · show (0 : Rat) = 0 * _
    rw [Rat.zero_mul]
  · show (0 : Rat) ≤ _
    rw [e1]
    decide +kernel
theorem room_big (h : JInv c j m) : Big (m.room : Rat) := by
  have a := h.r0
  have b := h.r1
  exact Sz.int (n := 4400) (Nat.lt_of_lt_of_le (show m.room.natAbs < 2 ^ 20 by omega) (Nat.pow_le_pow_right (by decide) (by decide))) (by decide)
end JInv

theorem JInv.lfit {c j : Nat} {m : Mo} (h : JInv c j m) (hc : m.cur = false) (c9 : c ≤ 20) (j9 : j < 1000) : LFit m := by
  have t18 := mil_hi h.t9 c9
  have w18 := mil_hi h.w9 c9
  have l1 : m.left = 1 := by unfold Mo.left; rw [hc] <;> rfl
  have tk0 : ∀ i, 0 ≤ zsum ((m.ks.map m.q).take i) := fun i => zsum_nn fun q hq => h.nn q (List.mem_of_mem_take hq)
  have tkd : ∀ i, Dv 960 (zsum ((m.ks.map m.q).take i)) := fun i => Dv.all fun q hq => by
    obtain ⟨k, hk, rfl⟩ := List.mem_map.mp (List.mem_of_mem_take hq)
    exact h.qd k hk
  have tkl : ∀ i, zsum ((m.ks.map m.q).take i) ≤ m.tot := fun i => zsum_take_le h.nn i
  have s0 := h.s0
  have s9 := Rat.le_trans h.s9 t18
  have w0 := h.w0
  have sDv := h.sDv
  have e : (((40000000 : Nat) : Int) : Rat) = (((20000000 : Nat) : Int) : Rat) + (((20000000 : Nat) : Int) : Rat) := by decide +kernel
  refine ⟨fun i _ => ?_, fun k hk => ?_, (sz200 sDv (by decide) (by decide) s0 s9 (by decide) (by decide)).big (by decide), (sz200 h.wd (by decide) (by decide) w0 w18 (by decide) (by decide)).big (by decide), ?_, by have := h.len; omega, h.room_big, h.sum⟩
  · have e : zsum ((m.ks.map fun k => m.q k * m.left).take i) = zsum ((m.ks.map m.q).take i) := by
      have e2 : (m.ks.map fun k => m.q k * m.left) = m.ks.map m.q := List.map_congr_left fun k _ => by rw [l1, Rat.mul_one]
      rw [e2]
    rw [e]
    exact (sz200 (tkd i) (by decide) (by decide) (tk0 i) (Rat.le_trans (tkl i) t18) (by decide) (by decide)).big (by decide)
  · rw [l1, Rat.mul_one]
    exact h.qbig c9 hk
  · exact (sz200 (B := 40000000) ((sDv.up (N := 960 * 27720 * 413) (by decide)).add (h.wd.up (N := 960 * 27720 * 413) (by decide))) (by decide) (by decide) (by grind) (by rw [e]; grind) (by decide) (by decide)).big (by decide)
/-- the juice in a mould, as it goes up -/
structure BOk (c : Nat) (u : Ju) : Prop where
  s0 : 0 ≤ u.1
  s9 : u.1 ≤ 1000000 * ((c : Int) : Rat)
  sd : Dv (960 * 27720) u.1
  w0 : 0 ≤ u.2
  w9 : u.2 ≤ 1000000 * ((c : Int) : Rat)
  wd : Dv 413 u.2
theorem JInv.bok {c j : Nat} {m : Mo} (h : JInv c j m) : BOk c (m.s, m.w) := ⟨h.s0, Rat.le_trans h.s9 h.t9, h.sDv, h.w0, h.w9, h.wd⟩
theorem BOk.mono {c c' : Nat} {u : Ju} (h : BOk c u) (k : c ≤ c') : BOk c' u := by
  have k := cast_le k
  refine ⟨h.s0, ?_, h.sd, h.w0, ?_, h.wd⟩
  · have := h.s9; grind
  · have := h.w9; grind
theorem BOk.big {c : Nat} {u : Ju} (h : BOk c u) (c9 : c ≤ 20) : Big u.1 ∧ Big u.2 ∧ Big (u.1 + u.2) := by
  have s9 := mil_hi h.s9 c9
  have w9 := mil_hi h.w9 c9
  have s0 := h.s0
  have w0 := h.w0
  have e : (((40000000 : Nat) : Int) : Rat) = (((20000000 : Nat) : Int) : Rat) + (((20000000 : Nat) : Int) : Rat) := by decide +kernel
  exact ⟨(sz200 h.sd (by decide) (by decide) s0 s9 (by decide) (by decide)).big (by decide), (sz200 h.wd (by decide) (by decide) w0 w9 (by decide) (by decide)).big (by decide), (sz200 (B := 40000000) ((h.sd.up (N := 960 * 27720 * 413) (by decide)).add (h.wd.up (N := 960 * 27720 * 413) (by decide))) (by decide) (by decide) (by grind) (by rw [e]; grind) (by decide) (by decide)).big (by decide)⟩
theorem beh_ok {c : Nat} : ∀ (ps : List Pour) {F : Str → Ju} {x : Str}, (∀ p ∈ ps, JuOk p.2.1 p.2.2) → BOk c (F x) → BOk (c + ps.length) (beh F ps x)
  | [], _, _, _, h => h
  | p :: r, F, x, hp, h => by
    have e : c + (p :: r).length = (c + 1) + r.length := by rw [List.length_cons]; omega
    rw [e]
    refine beh_ok r (F := jst F p) (fun p hp' => hp p (List.mem_cons_of_mem _ hp')) ?_
    have ju := hp p List.mem_cons_self
    unfold jst
    by_cases e : x = p.1
    · rw [e, set1_same]
      rw [e] at h
      have a := ju.s0
      have b := ju.s1
      have c := ju.w0
      have d := ju.w1
      have f := h.s0
      have g := h.s9
      have i := h.w0
      have k := h.w9
      exact ⟨by show 0 ≤ (F p.1).1 + p.2.1; grind, by rw [cast_one]; show (F p.1).1 + p.2.1 ≤ _; grind, h.sd.add (ju.sd.up (by decide)), by show 0 ≤ (F p.1).2 + p.2.2; grind, by rw [cast_one]; show (F p.1).2 + p.2.2 ≤ _; grind, h.wd.add ju.wd⟩
    · rw [set1_ne e]
      exact h.mono (Nat.le_succ c)
theorem lpour_inv {c j : Nat} {k : Int} {S : Str → Mo} {p : Pour} {x : Str} (ju : JuOk p.2.1 p.2.2) (h : JInv c j (S x)) (hc : (S x).cur = false) : JInv (c + 1) (j + 1) (lpour k S p x) := by
  unfold lpour
  by_cases e : x = p.1
  · subst e
    rw [set1_same]
    exact h.pour hc ju k
  · rw [set1_ne e]
    exact h.mono (Nat.le_succ _) (Nat.le_succ _)
theorem lpour_q {c j : Nat} {k : Int} {S : Str → Mo} {p : Pour} {x : Str} (ju : JuOk p.2.1 p.2.2) (h : QInv c j (S x)) : QInv (c + 1) (j + 1) (lpour k S p x) := by
  unfold lpour
  by_cases e : x = p.1
  · subst e
    rw [set1_same]
    exact h.bear ju k
  · rw [set1_ne e]
    exact h.mono (Nat.le_succ _) (Nat.le_succ _)
theorem lfold_inv {k : Int} : ∀ (ps : List Pour) {c j : Nat} {S : Str → Mo} {x : Str}, (∀ p ∈ ps, JuOk p.2.1 p.2.2) → JInv c j (S x) → (S x).cur = false → JInv (c + ps.length) (j + ps.length) (lfold S k ps x)
  | [], _, _, _, _, _, h, _ => h
  | p :: r, c, j, S, x, hp, h, hc => by
    have e1 : c + (p :: r).length = (c + 1) + r.length := by rw [List.length_cons]; omega
    have e2 : j + (p :: r).length = (j + 1) + r.length := by rw [List.length_cons]; omega
    rw [e1, e2]
    exact lfold_inv r (S := lpour k S p) (fun p hp' => hp p (List.mem_cons_of_mem _ hp')) (lpour_inv (hp p List.mem_cons_self) h hc) ((lpour_same (k := k) (S := S) (p := p) (x := x)).2.1.trans hc)
theorem lfold_q {k : Int} : ∀ (ps : List Pour) {c j : Nat} {S : Str → Mo} {x : Str}, (∀ p ∈ ps, JuOk p.2.1 p.2.2) → QInv c j (S x) → QInv (c + ps.length) (j + ps.length) (lfold S k ps x)
  | [], _, _, _, _, _, h => h
  | p :: r, c, j, S, x, hp, h => by
    have e1 : c + (p :: r).length = (c + 1) + r.length := by rw [List.length_cons]; omega
    have e2 : j + (p :: r).length = (j + 1) + r.length := by rw [List.length_cons]; omega
    rw [e1, e2]
    exact lfold_q r (S := lpour k S p) (fun p hp' => hp p (List.mem_cons_of_mem _ hp')) (lpour_q (hp p List.mem_cons_self) h)
theorem addK_addK {l : List Int} {k : Int} : addK (addK l k) k = addK l k := addK_in (mem_addK.mpr (.inr rfl))
theorem lfold_ks {k : Int} : ∀ (ps : List Pour) {S : Str → Mo} {x : Str}, addK (lfold S k ps x).ks k = addK (S x).ks k
  | [], _, _ => rfl
  | p :: r, S, x => by
    have h := lfold_ks (k := k) r (S := lpour k S p) (x := x)
    refine h.trans ?_
    unfold lpour
    by_cases e : x = p.1
    · subst e
      rw [set1_same]
      exact addK_addK
    · rw [set1_ne e]
theorem addK_ge {l : List Int} {k : Int} : l.length ≤ (addK l k).length := by
  unfold addK
  split
  · exact Nat.le_refl _
  · rw [List.length_append]
    omega
theorem lfold_len {k : Int} {ps : List Pour} {S : Str → Mo} {x : Str} : (lfold S k ps x).ks.length ≤ (S x).ks.length + 1 := by
  have h := addK_ge (l := (lfold S k ps x).ks) (k := k)
  rw [lfold_ks] at h
  exact Nat.le_trans h addK_len
/-- where no pour is at fault, each mould that is poured into has room for all -/
theorem pflt_none {nms : List Str} {st : Str → Mo} : ∀ (ps : List Pour) {F : Str → Ju}, pflt nms st F ps = none → ∀ x, (∀ p ∈ ps, p.1 ≠ x) ∨ ((st x).cur = false ∧ (beh F ps x).1 + (beh F ps x).2 ≤ ((st x).room : Rat))
  | [], _, _, _ => .inl fun p hp => absurd hp List.not_mem_nil
  | p :: r, F, h, x => by
    unfold pflt at h
    by_cases c1 : p.1 ∉ nms
    · rw [if_pos c1] at h; cases h
    rw [if_neg c1] at h
    by_cases c2 : (st p.1).cur = true
    · rw [if_pos c2] at h; cases h
    rw [if_neg c2] at h
    by_cases c3 : ((st p.1).room : Rat) < (F p.1).1 + p.2.1 + ((F p.1).2 + p.2.2)
    · rw [if_pos c3] at h; cases h
    rw [if_neg c3] at h
    rcases pflt_none r h x with ih | ih
    · by_cases e : p.1 = x
      · right
        subst e
        refine ⟨by cases hb : (st p.1).cur with | false => rfl | true => exact absurd hb c2, ?_⟩
        have un : ∀ (r : List Pour) (G : Str → Ju), (∀ q ∈ r, q.1 ≠ p.1) → beh G r p.1 = G p.1 := by
          intro r
          induction r with
          | nil => intro G _; rfl
          | cons q r ih2 =>
            intro G hq
            show beh (jst G q) r p.1 = G p.1
            rw [ih2 _ fun q' hq' => hq q' (List.mem_cons_of_mem _ hq')]
            unfold jst
            rw [set1_ne fun z => hq q List.mem_cons_self z.symm]
        show (beh (jst F p) r p.1).1 + (beh (jst F p) r p.1).2 ≤ _
        rw [un r _ ih]
        unfold jst
        rw [set1_same]
        exact Rat.not_lt.mp c3
      · exact .inl fun q hq => by
          rcases List.mem_cons.mp hq with z | z
          · rw [z]; exact e
          · exact ih q z
    · exact .inr ih
/-- the sums of a filling told at once, or one after another: the rest is alike -/
theorem fold_alike {F : Str → Ju} {k : Int} : ∀ (ps : List Pour) {S S' : Str → Mo} {x : Str}, (∀ y, (S y).poured 0 0 = (S' y).poured 0 0) → (ps.foldl (fst1 F k) S x).poured 0 0 = (lfold S' k ps x).poured 0 0
  | [], _, _, x, h => h x
  | p :: r, S, S', x, h => by
    refine fold_alike r (S := fst1 F k S p) (S' := lpour k S' p) fun y => ?_
    unfold fst1 lpour
    by_cases e : y = p.1
    · rw [e, set1_same, set1_same]
      show ((S p.1).poured 0 0).bear k p.2.1 = ((S' p.1).poured 0 0).bear k p.2.1
      rw [h p.1]
    · rw [set1_ne e, set1_ne e]
      exact h y
theorem fold_sums {F : Str → Ju} {k : Int} : ∀ (ps : List Pour) {S : Str → Mo} {x : Str}, ((∀ p ∈ ps, p.1 ≠ x) ∧ ps.foldl (fst1 F k) S x = S x) ∨ (((ps.foldl (fst1 F k) S x).s, (ps.foldl (fst1 F k) S x).w) = F x)
  | [], _, _ => .inl ⟨fun p hp => absurd hp List.not_mem_nil, rfl⟩
  | p :: r, S, x => by
    rcases fold_sums r (S := fst1 F k S p) (x := x) with ⟨h1, h2⟩ | h
    · by_cases e : p.1 = x
      · right
        show ((r.foldl (fst1 F k) (fst1 F k S p) x).s, (r.foldl (fst1 F k) (fst1 F k S p) x).w) = F x
        rw [h2]
        unfold fst1
        rw [← e, set1_same]
        rfl
      · refine .inl ⟨fun q hq => ?_, ?_⟩
        · rcases List.mem_cons.mp hq with z | z
          · rw [z]; exact e
          · exact h1 q z
        · show r.foldl (fst1 F k) (fst1 F k S p) x = S x
          rw [h2]
          unfold fst1
          rw [set1_ne fun z => e z.symm]
    · exact .inr h
theorem poured_eq {m m' : Mo} (h : m.poured 0 0 = m'.poured 0 0) (e : (m.s, m.w) = (m'.s, m'.w)) : m = m' := by
  have e1 : m.s = m'.s := congrArg Prod.fst e
  have e2 : m.w = m'.w := congrArg Prod.snd e
  have a : m = (m.poured 0 0).poured m.s m.w := rfl
  have b : m' = (m'.poured 0 0).poured m'.s m'.w := rfl
  rw [a, b, h, e1, e2]
theorem lfold_un {k : Int} : ∀ (ps : List Pour) {S : Str → Mo} {x : Str}, (∀ p ∈ ps, p.1 ≠ x) → lfold S k ps x = S x
  | [], _, _, _ => rfl
  | p :: r, S, x, h => by
    have e := lfold_un (k := k) r (S := lpour k S p) (x := x) fun q hq => h q (List.mem_cons_of_mem _ hq)
    refine e.trans ?_
    unfold lpour
    rw [set1_ne fun z => h p List.mem_cons_self z.symm]
theorem filled_eq {st : Str → Mo} {k : Int} {ps : List Pour} : filled st k ps = lfold st k ps := funext fun x => by
  rcases fold_sums (F := beh (jus st) ps) (k := k) ps (S := st) (x := x) with ⟨h1, h2⟩ | h
  · exact h2.trans (lfold_un ps h1).symm
  · refine poured_eq (fold_alike ps fun _ => rfl) (h.trans ?_)
    have e := congrFun (lfold_jus (k := k) ps (S := st)) x
    exact e.symm
/-- what dripped into the vat, so many deeds on -/
structure VInv (i : Nat) (v1 v2 : Rat) : Prop where
  a0 : 0 ≤ v1
  a1 : v1 ≤ 1000000 * ((i : Int) : Rat)
  b0 : 0 ≤ v2
  b1 : v2 ≤ 1000000 * ((i : Int) : Rat)
  dv : ∃ M : Nat, 0 < M ∧ 960 * 27720 * 27720 * 413 ∣ M ∧ M ≤ 960 * 27720 * 27720 * 413 * 12 ^ i ∧ Dv M v1 ∧ Dv M v2
theorem VInv.init : VInv 0 0 0 := by
  have e : (((0 : Nat) : Int) : Rat) = 0 := rfl
  refine ⟨Rat.le_refl, ?_, Rat.le_refl, ?_, _, by decide, Nat.dvd_refl _, by decide, Dv.zero, Dv.zero⟩
  · rw [e, Rat.mul_zero]; exact Rat.le_refl
  · rw [e, Rat.mul_zero]; exact Rat.le_refl
theorem VInv.mono {i i' : Nat} {v1 v2 : Rat} (h : VInv i v1 v2) (le : i ≤ i') : VInv i' v1 v2 := by
  obtain ⟨a0, a1, b0, b1, M, m0, md, m9, d1, d2⟩ := h
  have k := cast_le le
  exact ⟨a0, by grind, b0, by grind, M, m0, md, Nat.le_trans m9 (Nat.mul_le_mul_left _ (Nat.pow_le_pow_right (by decide) le)), d1, d2⟩
theorem VInv.big {i : Nat} {v1 v2 : Rat} (h : VInv i v1 v2) (i9 : i ≤ 300) : Big v1 ∧ Big v2 := by
  obtain ⟨a0, a1, b0, b1, M, m0, md, m9, d1, d2⟩ := h.mono i9
  have e : 1000000 * (((300 : Nat) : Int) : Rat) = (((300000000 : Nat) : Int) : Rat) := by decide +kernel
  rw [e] at a1 b1
  have f : 300000000 * M < 2 ^ 4400 := Nat.lt_of_le_of_lt (Nat.mul_le_mul_left _ m9) (by decide +kernel)
  exact ⟨d1.szN m0 a0 a1 (by decide) f, d2.szN m0 b0 b1 (by decide) f⟩
theorem VInv.drain {i j : Nat} {v1 v2 : Rat} {m : Mo} (h : VInv i v1 v2) (f : JInv 1 j m) : VInv (i + 1) (v1 + m.s * m.drip) (v2 + m.w) := by
  obtain ⟨a0, a1, b0, b1, M, m0, md, m9, d1, d2⟩ := h
  have e1 : ((((1 : Nat) : Int)) : Rat) = 1 := rfl
  have t9 := f.t9
  have w9 := f.w9
  rw [e1] at t9 w9
  have s0 := f.s0
  have s9 := f.s9
  have g0 := Rat.mul_nonneg s0 f.d0
  have g1 := mul_le s0 (Rat.le_of_lt f.d1)
  have w0 := f.w0
  refine ⟨by grind, by rw [cast_one]; grind, by grind, by rw [cast_one]; grind, M, m0, md, Nat.le_trans m9 (Nat.mul_le_mul_left _ (Nat.pow_le_pow_right (by decide) (Nat.le_succ i))), d1.add ((f.sDv.mul f.part.dv).up (Nat.dvd_trans (by decide) md)), d2.add (f.wd.up (Nat.dvd_trans (by decide) md))⟩
theorem sh_le {t : Rat} (h : ShOk t) : 0 ≤ 1 - t ∧ 1 - t ≤ 1 := by
  obtain ⟨h1, h2, h3⟩ := h
  have a : 0 < t := num_pos.mp h1
  have b : t ≤ 1 := by
    rw [Rat.le_iff]
    have e1 : (1 : Rat).num = 1 := rfl
    have e2 : ((1 : Rat).den : Int) = 1 := rfl
    rw [e1, e2]
    omega
  constructor <;> grind
theorem VInv.draw {i : Nat} {v1 v2 t : Rat} (h : VInv i v1 v2) (ok : ShOk t) : VInv (i + 1) (v1 * (1 - t)) (v2 * (1 - t)) := by
  obtain ⟨a0, a1, b0, b1, M, m0, md, m9, d1, d2⟩ := h
  obtain ⟨t0, t1⟩ := sh_le ok
  have td : Dv t.den (1 - t) := (Dv.int (M := t.den) 1).sub (Dv.den t)
  have dp : 0 < t.den := t.den_pos
  have d12 : t.den ≤ 12 := by have := ok.2.2; omega
  have x1 := Rat.mul_nonneg a0 t0
  have x2 := Rat.mul_nonneg b0 t0
  have y1 := mul_le a0 t1
  have y2 := mul_le b0 t1
  refine ⟨x1, by rw [cast_one]; grind, x2, by rw [cast_one]; grind, M * t.den, Nat.mul_pos m0 dp, Nat.dvd_trans md (Nat.dvd_mul_right _ _), ?_, d1.mul td, d2.mul td⟩
  rw [Nat.pow_succ, ← Nat.mul_assoc]
  exact Nat.mul_le_mul m9 d12
/-! the two books -/
section
variable {CO CM : Addr} {H0 H H' : Hp} {b : Addr} {n n' : Nat} {A : MAd} {B : LAd} {nms : List Str} {st stL st' : Str → Mo} {v1 v2 u1 u2 w1 w2 : Rat} {lds ldt ld' : List PyData}
theorem W2.boxO (h : W2 K CO CM H0 H b n A B nms st stL v1 v2 u1 u2 lds ldt) (o : Off K (· = b) H H') (bx : BoxAt H' b n') : W2 K CO CM H0 H' b n' A B nms st stL v1 v2 u1 u2 lds ldt := by
  obtain ⟨kvs, e⟩ := h.rm
  exact ⟨h.mo.off o (fun a r => (h.d1 a r).2.2.2) h.d2.2.1, h.la.off o h.d3 h.d4.1 h.d4.2, bx, ⟨kvs, o.dK h.d4.1 e⟩, h.oH.trans o (fun a r => .inr (h.nw a (.inr (.inr (.inr (.inr (.inr r))))))), h.nw, h.d1, h.d2, h.d3, h.d4⟩
theorem W2.lawN (h : W2 K CO CM H0 H b n A B nms st stL v1 v2 u1 u2 lds ldt) {B' : LAd} (o : Off K (· = B.m) H H') (l : LawAt K H' B' nms st' w1 w2 ld') (nw : ∀ a, B'.R nms a → a = B.m ∨ H a = none) (n1 : H B'.rm = none) (n2 : H B'.dp = none) (rm : ∃ kvs, H' B'.rm = some (.dK kvs)) :
    W2 K CO CM H0 H' b n A B' nms st st' v1 v2 w1 w2 lds ld' := by
  obtain ⟨bl, hb⟩ := box_lst h.bx
  obtain ⟨ot, et, _⟩ := rd_ex h.mo.t
  have no : ∀ {c : Addr} {o : HO}, H c = some o → H c = none → False := fun e z => by rw [e] at z; cases z
  refine ⟨h.mo.off o (fun a r z => (h.d1 a r).1 (.inl z)) (fun z => h.d2.1 (.inl z)), l, o.boxAt (fun z => h.d3 _ (.inl rfl) z.symm) h.bx, rm, h.oH.trans o (fun a r => .inr (h.nw a (.inr (.inr (.inl (.inl r)))))), fun a d => ?_, fun a r => ?_, ⟨fun z => ?_, h.d2.2.1, fun z => no et (by rw [z]; exact n1)⟩, fun a r => ?_, ⟨fun z => no hb (by rw [← z]; exact n1), fun z => no hb (by rw [← z]; exact n2)⟩⟩
  · rcases d with d | d | d | d | d | d
    · exact h.nw a (.inl d)
    · exact h.nw a (.inr (.inl d))
    · rcases nw a d with e | e
      · exact h.nw a (.inr (.inr (.inl (.inl e))))
      · exact Nw.back h.oH id (.of e)
    · exact Nw.back h.oH id (.of (by rw [d]; exact n1))
    · exact Nw.back h.oH id (.of (by rw [d]; exact n2))
    · exact h.nw a (.inr (.inr (.inr (.inr (.inr d)))))
  · obtain ⟨oa, ea, _⟩ := h.mo.there r
    refine ⟨fun z => ?_, fun z => no ea (by rw [z]; exact n1), fun z => no ea (by rw [z]; exact n2), (h.d1 a r).2.2.2⟩
    rcases nw a z with e | e
    · exact (h.d1 a r).1 (.inl e)
    · exact no ea e
  · rcases nw _ z with e | e
    · exact h.d2.1 (.inl e)
    · exact no et e
  · rcases nw a r with e | e
    · exact fun z => h.d3 _ (.inl rfl) (e.symm.trans z)
    · exact fun z => no hb (by rw [← z]; exact e)
end
/-- what a deed leaves, behind both of it, with what both told -/
def Out (K : PySem.W.Frag) (CO CM : Addr) (H0 : Hp) (b : Addr) (n : Nat) (A : MAd) (B : LAd) (nms : List Str) (j i ln : Nat) (v v2 : V) (H3 : Hp) : Prop :=
  ∃ (A' : MAd) (B' : LAd) (st' : Str → Mo) (w1 w2 : Rat) (lds' : List PyData) (dat : PyData), W2 K CO CM H0 H3 b n A' B' nms st' st' w1 w2 w1 w2 lds' lds' ∧ A'.p = A.p ∧ B'.m = B.m ∧ (∀ x ∈ nms, JInv 1 (j + 1) (st' x)) ∧ VInv (i + 1) w1 w2 ∧ lds'.length ≤ ln + 1 ∧ Dk K H3 8 v dat ∧ Dk K H3 8 v2 dat
theorem told_of (T : All K mg) {A : MAd} {nms : List Str} {st : Str → Mo} {v1 v2 : Rat} {lds : List PyData} {H1 : Hp} {d : Addr} {Q : VK} {E : XK} (m : MouldsAt K T.C_Moulds T.C_Mould H1 A nms st v1 v2 lds) (h : ∀ H0, Same H1 H0 →
  ((∃ k l, SqT K H1 d [.str "fill", .int k, .ref l] ∧ sp_Moulds_fill K T.C_Moulds T.C_Mould T.C_NoMould T.C_Cured T.C_NoRoom [.ref A.p, .int k, .ref l] H0 Q (tE T Q)) ∨ (∃ x, SqT K H1 d [.str "drain", .str x] ∧ sp_Moulds_drain K T.C_Moulds T.C_Mould T.C_NoMould T.C_Empty T.C_Cured [.ref A.p, .str x] H0 Q (tE T Q)) ∨
  (∃ x, SqT K H1 d [.str "knock", .str x] ∧ sp_Moulds_knock K T.C_Moulds T.C_Mould T.C_NoMould T.C_Empty T.C_NotCured [.ref A.p, .str x] H0 Q (tE T Q)) ∨ ∃ a, SqT K H1 d [.str "draw", .ref a] ∧ sp_Moulds_draw K T.C_Moulds T.C_Mould T.C_Empty T.C_NoShare [.ref A.p, .ref a] H0 Q (tE T Q))) : sp_told T [.ref A.p, .ref d] H1 Q E := by
  obtain ⟨dx, rv, vv, h1, _⟩ := m.p
  exact ⟨A.p, d, dx, A.t, A.l, rv, vv, rfl, h1, h⟩
theorem pnm_lay {nms : List Str} (lay : ∀ x ∈ nms, PyData.canLay0 (.str x) = true) {x : Str} (h : PNm nms x) : PyData.canLay0 (.str x) = true := by
  rcases h with h | h
  · exact lay x h
  · subst h; decide +kernel
theorem ju_bok {s w : Rat} (ju : JuOk s w) : BOk 1 (s, w) := by
  have e1 : ((((1 : Nat) : Int)) : Rat) = 1 := rfl
  refine ⟨Rat.le_of_lt ju.s0, ?_, ju.sd.up (by decide), ju.w0, ?_, ju.wd⟩
  · rw [e1, Rat.mul_one]; exact ju.s1
  · rw [e1, Rat.mul_one]; exact ju.w1
theorem sh_big {t : Rat} (h : ShAny t) : Big t ∧ Big (1 - t) := by
  have a : Sz 4 t := ⟨by have := h.1; omega, by have := h.2; omega⟩
  have o : Sz 1 ((1 : Int) : Rat) := Sz.int (by decide) (by decide)
  have e : ((1 : Int) : Rat) = 1 := rfl
  rw [e] at o
  exact ⟨a.up (by decide), (o.sub a).up (by decide)⟩
theorem ref_dk {H : Hp} {a : Addr} {nm x : Str} (h : SqT K H a [.str "refused", .str nm, .str x]) (l1 : PyData.canLay0 (.str nm) = true) (l2 : PyData.canLay0 (.str x) = true) : Dk K H 8 (.ref a) (refD nm x) :=
  (DtuAll.tup (n := 7) (.cons (.str _ _ (by decide +kernel)) (.cons (.str _ _ l1) (.cons (.str _ _ l2) .nil))) h (by show 3 ≤ 100000; decide)).dk

section
variable {H0 H : Hp} {b d : Addr} {n i j : Nat} {A : MAd} {B : LAd} {nms : List Str} {st : Str → Mo} {v1 v2 : Rat} {lds : List PyData}
/-- a refusal: nothing is changed -/
theorem out_ref {CO CM : Addr} {H1 H3 : Hp} {a a2 : Addr} {nm x : Str} (W : W2 K CO CM H0 H3 b n A B nms st st v1 v2 v1 v2 lds lds) (inv : ∀ x ∈ nms, JInv 1 j (st x)) (vok : VInv i v1 v2) (l1 : PyData.canLay0 (.str nm) = true) (l2 : PyData.canLay0 (.str x) = true)
    (h : Dtu K H1 3 (.ref a) (refD nm x)) (t : TK K H1 H3) (z : SqT K H3 a2 [.str "refused", .str nm, .str x]) : Out K CO CM H0 b n A B nms j i lds.length (.ref a) (.ref a2) H3 :=
  ⟨A, B, st, v1, v2, lds, _, W, rfl, rfl, fun x hx => (inv x hx).mono (Nat.le_refl _) (Nat.le_succ _), vok.mono (Nat.le_succ _), Nat.le_succ _, ((h.tk t).up (by decide)).dk, ref_dk z l1 l2⟩
theorem set_inv {m : Mo} {x : Str} (inv : ∀ x ∈ nms, JInv 1 j (st x)) (h : JInv 1 j m) : ∀ y ∈ nms, JInv 1 (j + 1) (set1 st x m y) := fun y hy => by
  by_cases e : y = x
  · rw [e, set1_same]
    exact h.mono (Nat.le_refl _) (Nat.le_succ _)
  · rw [set1_ne e]
    exact (inv y hy).mono (Nat.le_refl _) (Nat.le_succ _)
theorem done_drain (T : All K mg) {x : Str} (W : W2 K T.C_Moulds T.C_Mould H0 H b n A B nms st st v1 v2 v1 v2 lds lds) (inv : ∀ x ∈ nms, JInv 1 j (st x)) (vok : VInv i v1 v2) (ht : SqT K H d [.str "drain", .str x]) (px : PNm nms x) (lay : ∀ x ∈ nms, PyData.canLay0 (.str x) = true) (j9 : j < 63) (i9 : i < 300)
    {Q : VK} {E E2 : XK} (q : ∀ v H1, (∀ Q2, (∀ v2 H3, Out K T.C_Moulds T.C_Mould H0 b n A B nms j i lds.length v v2 H3 → Q2 v2 H3) → sp_told T [.ref A.p, .ref d] H1 Q2 E2) → Q v H1) : sp_ldone K [.ref B.m, .ref d] H Q E := by
  have lx := pnm_lay lay px
  have ft : x ∈ nms → (st x).Fit2 := fun hx => (inv x hx).fit (by decide) (by omega)
  have bg := vok.big (by omega)
  refine ⟨B.m, d, rfl, .inr (.inl ⟨x, ht, B, nms, st, v1, v2, lds, x, rfl, W.la, lx, ft, bg.1, bg.2, fun nx a H1 s1 h1 => ?_, fun hx e a H1 s1 h1 => ?_, fun hx ne cu a H1 s1 h1 => ?_, fun hx ne cu a H1 l1 j1 o1 => ?_⟩)⟩
  · refine q _ _ fun Q2 out => told_of T (W.same s1).mo fun H2 s2 => .inr (.inl ⟨x, Same.tup s1 ht, A, nms, st, v1, v2, lds, x, rfl, ((W.same s1).same s2).mo, fun hx => (ft hx).toFit, bg.1, bg.2, fun _ => ?_, fun hx => absurd hx nx, fun hx => absurd hx nx, fun hx => absurd hx nx⟩)
    exact tE.rf T (.inl ⟨rfl, rfl⟩) fun a2 G s z => out _ _ (out_ref (((W.same s1).same s2).same s) inv vok (by decide +kernel) lx h1 (.same (s2.trans s)) z)
  · have nz := (inv x hx).none e
    refine q _ _ fun Q2 out => told_of T (W.same s1).mo fun H2 s2 => .inr (.inl ⟨x, Same.tup s1 ht, A, nms, st, v1, v2, lds, x, rfl, ((W.same s1).same s2).mo, fun hx => (ft hx).toFit, bg.1, bg.2, fun nx => absurd hx nx, fun _ _ => ?_, fun _ z => absurd nz z, fun _ z => absurd nz z⟩)
    exact tE.rf T (.inr (.inr (.inr (.inr (.inr ⟨rfl, rfl⟩))))) fun a2 G s z => out _ _ (out_ref (((W.same s1).same s2).same s) inv vok (by decide +kernel) lx h1 (.same (s2.trans s)) z)
  · have nz := (inv x hx).some ne
    refine q _ _ fun Q2 out => told_of T (W.same s1).mo fun H2 s2 => .inr (.inl ⟨x, Same.tup s1 ht, A, nms, st, v1, v2, lds, x, rfl, ((W.same s1).same s2).mo, fun hx => (ft hx).toFit, bg.1, bg.2, fun nx => absurd hx nx, fun _ z => absurd z nz, fun _ _ _ => ?_, fun _ _ z => absurd (cu.symm.trans z) (by decide)⟩)
    exact tE.rf T (.inr (.inr (.inl ⟨rfl, rfl⟩))) fun a2 G s z => out _ _ (out_ref (((W.same s1).same s2).same s) inv vok (by decide +kernel) lx h1 (.same (s2.trans s)) z)
  · have nz := (inv x hx).some ne
    have W1 := W.law o1 l1
    refine q _ _ fun Q2 out => told_of T W1.mo fun H2 s2 => .inr (.inl ⟨x, o1.tk _ _ ht, A, nms, st, v1, v2, lds, x, rfl, (W1.same s2).mo, fun hx => (ft hx).toFit, bg.1, bg.2, fun nx => absurd hx nx, fun _ z => absurd z nz, fun _ _ z => absurd (cu.symm.trans z) (by decide), fun _ _ _ a2 G m2 j2 o2 => ?_⟩)
    exact out _ _ ⟨A, B, _, _, _, lds, _, (W1.same s2).prog o2 m2, rfl, rfl, set_inv inv ((inv x hx).drained cu), vok.drain (inv x hx), Nat.le_succ _, (((j1.tk (.same s2)).tk o2.tk).dtu 5).dk, (j2.dtu 5).dk⟩
theorem done_knock (T : All K mg) {x : Str} (W : W2 K T.C_Moulds T.C_Mould H0 H b n A B nms st st v1 v2 v1 v2 lds lds) (inv : ∀ x ∈ nms, JInv 1 j (st x)) (vok : VInv i v1 v2) (ht : SqT K H d [.str "knock", .str x]) (px : PNm nms x) (lay : ∀ x ∈ nms, PyData.canLay0 (.str x) = true) (j9 : j < 63) (l9 : lds.length < 50000)
    {Q : VK} {E E2 : XK} (q : ∀ v H1, (∀ Q2, (∀ v2 H3, Out K T.C_Moulds T.C_Mould H0 b n A B nms j i lds.length v v2 H3 → Q2 v2 H3) → sp_told T [.ref A.p, .ref d] H1 Q2 E2) → Q v H1) : sp_ldone K [.ref B.m, .ref d] H Q E := by
  have lx := pnm_lay lay px
  have ft : x ∈ nms → (st x).Fit2 := fun hx => (inv x hx).fit (by decide) (by omega)
  refine ⟨B.m, d, rfl, .inr (.inr (.inl ⟨x, ht, B, nms, st, v1, v2, lds, x, rfl, W.la, lx, ft, fun hx => (inv x hx).cz, l9, fun nx a H1 s1 h1 => ?_, fun hx e a H1 s1 h1 => ?_, fun hx ne cu a H1 s1 h1 => ?_, fun hx ne cu a g H1 ng l1 j1 o1 => ?_⟩))⟩
  · refine q _ _ fun Q2 out => told_of T (W.same s1).mo fun H2 s2 => .inr (.inr (.inl ⟨x, Same.tup s1 ht, A, nms, st, v1, v2, lds, x, rfl, ((W.same s1).same s2).mo, fun hx => ⟨(ft hx).toFit, lx⟩, l9, fun _ => ?_, fun hx => absurd hx nx, fun hx => absurd hx nx, fun hx => absurd hx nx⟩))
    exact tE.rf T (.inl ⟨rfl, rfl⟩) fun a2 G s z => out _ _ (out_ref (((W.same s1).same s2).same s) inv vok (by decide +kernel) lx h1 (.same (s2.trans s)) z)
  · have nz := (inv x hx).none e
    refine q _ _ fun Q2 out => told_of T (W.same s1).mo fun H2 s2 => .inr (.inr (.inl ⟨x, Same.tup s1 ht, A, nms, st, v1, v2, lds, x, rfl, ((W.same s1).same s2).mo, fun hx => ⟨(ft hx).toFit, lx⟩, l9, fun nx => absurd hx nx, fun _ _ => ?_, fun _ z => absurd nz z, fun _ z => absurd nz z⟩))
    exact tE.rf T (.inr (.inr (.inr (.inr (.inr ⟨rfl, rfl⟩))))) fun a2 G s z => out _ _ (out_ref (((W.same s1).same s2).same s) inv vok (by decide +kernel) lx h1 (.same (s2.trans s)) z)
  · have nz := (inv x hx).some ne
    refine q _ _ fun Q2 out => told_of T (W.same s1).mo fun H2 s2 => .inr (.inr (.inl ⟨x, Same.tup s1 ht, A, nms, st, v1, v2, lds, x, rfl, ((W.same s1).same s2).mo, fun hx => ⟨(ft hx).toFit, lx⟩, l9, fun nx => absurd hx nx, fun _ z => absurd z nz, fun _ _ _ => ?_, fun _ _ z => absurd (cu.symm.trans z) (by decide)⟩))
    exact tE.rf T (.inr (.inr (.inr (.inl ⟨rfl, rfl⟩)))) fun a2 G s z => out _ _ (out_ref (((W.same s1).same s2).same s) inv vok (by decide +kernel) lx h1 (.same (s2.trans s)) z)
  · have nz := (inv x hx).some ne
    have W1 := W.lawk ng o1 l1
    refine q _ _ fun Q2 out => told_of T W1.mo fun H2 s2 => .inr (.inr (.inl ⟨x, o1.tk _ _ ht, A, nms, st, v1, v2, lds, x, rfl, (W1.same s2).mo, fun hx => ⟨(ft hx).toFit, lx⟩, l9, fun nx => absurd hx nx, fun _ z => absurd z nz, fun _ _ z => absurd (cu.symm.trans z) (by decide), fun _ _ _ a2 g2 G ng2 m2 j2 o2 => ?_⟩))
    exact out _ _ ⟨{ A with g := set1 A.g x g2 }, { B with s := set1 B.s x g }, _, _, _, _, _, (W1.same s2).progk ng2 o2 m2, rfl, rfl, set_inv inv (inv x hx).cleared, vok.mono (Nat.le_succ _), by rw [List.length_append] <;> exact Nat.le_refl _, (((j1.tk (.same s2)).tk o2.tk).up (by decide)).dk, (j2.up (by decide)).dk⟩
theorem done_draw (T : All K mg) {a : Addr} {t : Rat} (W : W2 K T.C_Moulds T.C_Mould H0 H b n A B nms st st v1 v2 v1 v2 lds lds) (inv : ∀ x ∈ nms, JInv 1 j (st x)) (vok : VInv i v1 v2) (ht : SqT K H d [.str "draw", .ref a]) (ha : FrQ K H a t) (st' : ShAny t) (i9 : i < 300)
    {Q : VK} {E E2 : XK} (q : ∀ v H1, (∀ Q2, (∀ v2 H3, Out K T.C_Moulds T.C_Mould H0 b n A B nms j i lds.length v v2 H3 → Q2 v2 H3) → sp_told T [.ref A.p, .ref d] H1 Q2 E2) → Q v H1) : sp_ldone K [.ref B.m, .ref d] H Q E := by
  have bg := vok.big (by omega)
  obtain ⟨t1, t2⟩ := sh_big st'
  refine ⟨B.m, d, rfl, .inr (.inr (.inr ⟨a, ht, B, nms, st, v1, v2, lds, a, t, rfl, W.la, ha, bg.1, bg.2, t1, t2, fun no x H1 s1 h1 => ?_, fun ok e x H1 s1 h1 => ?_, fun ok ne x H1 l1 j1 o1 => ?_⟩))⟩
  · refine q _ _ fun Q2 out => told_of T (W.same s1).mo fun H2 s2 => .inr (.inr (.inr ⟨a, Same.tup s1 ht, A, nms, st, v1, v2, lds, a, t, rfl, ((W.same s1).same s2).mo, (ha.same s1).same s2, bg.1, bg.2, t1, t2, fun _ => ?_, fun ok => absurd ok no, fun ok => absurd ok no⟩))
    refine tE.rf T (.inr (.inr (.inr (.inr (.inl ⟨rfl, rfl⟩))))) fun a2 G s z => out _ _ ⟨A, B, st, v1, v2, lds, _, ((W.same s1).same s2).same s, rfl, rfl, fun x hx => (inv x hx).mono (Nat.le_refl _) (Nat.le_succ _), vok.mono (Nat.le_succ _), Nat.le_succ _, ((h1.tk (.same (s2.trans s))).up (by decide)).dk, ?_⟩
    exact (DtuAll.tup (n := 7) (.cons (.str _ _ (by decide +kernel)) (.cons (.str _ _ (by decide +kernel)) (.cons ((((ha.same s1).same s2).same s).dtu 5) .nil))) z (by show 3 ≤ 100000; decide)).dk
  · refine q _ _ fun Q2 out => told_of T (W.same s1).mo fun H2 s2 => .inr (.inr (.inr ⟨a, Same.tup s1 ht, A, nms, st, v1, v2, lds, a, t, rfl, ((W.same s1).same s2).mo, (ha.same s1).same s2, bg.1, bg.2, t1, t2, fun no => absurd ok no, fun _ _ => ?_, fun _ z => absurd e z⟩))
    exact tE.rf T (.inr (.inr (.inr (.inr (.inr ⟨rfl, rfl⟩))))) fun a2 G s z => out _ _ (out_ref (((W.same s1).same s2).same s) inv vok (by decide +kernel) (by decide +kernel) h1 (.same (s2.trans s)) z)
  · have W1 := W.law o1 l1
    refine q _ _ fun Q2 out => told_of T W1.mo fun H2 s2 => .inr (.inr (.inr ⟨a, o1.tk _ _ ht, A, nms, st, v1, v2, lds, a, t, rfl, (W1.same s2).mo, (ha.tk o1.tk).same s2, bg.1, bg.2, t1, t2, fun no => absurd ok no, fun _ z => absurd z ne, fun _ _ a2 G m2 j2 o2 => ?_⟩))
    exact out _ _ ⟨A, B, st, _, _, lds, _, (W1.same s2).prog o2 m2, rfl, rfl, fun x hx => (inv x hx).mono (Nat.le_refl _) (Nat.le_succ _), vok.draw ok, Nat.le_succ _, (((j1.tk (.same s2)).tk o2.tk).dtu 5).dk, (j2.dtu 5).dk⟩
theorem done_fill (T : All K mg) {k : Int} {l : Addr} {pvs : List V} {ps : List Pour} (W : W2 K T.C_Moulds T.C_Mould H0 H b n A B nms st st v1 v2 v1 v2 lds lds) (inv : ∀ x ∈ nms, JInv 1 j (st x)) (vok : VInv i v1 v2) (ht : SqT K H d [.str "fill", .int k, .ref l]) (hl : H l = some (.lst pvs)) (nl : ¬ Dm A B b nms l)
    (hp : PoursAt K H pvs ps) (p4 : ps.length ≤ 10) (pok : ∀ p ∈ ps, PourOk nms p) (ndN : nms.Nodup) (lay : ∀ x ∈ nms, PyData.canLay0 (.str x) = true) (j9 : j < 900)
    {Q : VK} {E E2 : XK} (q : ∀ v H1, (∀ Q2, (∀ v2 H3, Out K T.C_Moulds T.C_Mould H0 b n A B nms j i lds.length v v2 H3 → Q2 v2 H3) → sp_told T [.ref A.p, .ref d] H1 Q2 E2) → Q v H1) : sp_ldone K [.ref B.m, .ref d] H Q E := by
  have ju : ∀ p ∈ ps, JuOk p.2.1 p.2.2 := fun p hp => (pok p hp).2
  have tk10 : ∀ i, (ps.take i).length ≤ 10 := fun i => by rw [List.length_take]; omega
  have jt : ∀ i, ∀ p ∈ ps.take i, JuOk p.2.1 p.2.2 := fun i p hp => ju p (List.mem_of_mem_take hp)
  have pb : ∀ p ∈ ps, Big p.2.1 ∧ Big p.2.2 := fun p hp => ⟨((ju_bok (ju p hp)).big (by decide)).1, ((ju_bok (ju p hp)).big (by decide)).2.1⟩
  have bh : ∀ i, i ≤ ps.length → ∀ x ∈ nms, Big (beh (jus st) (ps.take i) x).1 ∧ Big (beh (jus st) (ps.take i) x).2 ∧ Big ((beh (jus st) (ps.take i) x).1 + (beh (jus st) (ps.take i) x).2) := fun i _ x hx =>
    (beh_ok (c := 1) (ps.take i) (jt i) (inv x hx).bok).big (by have := tk10 i; omega)
  have rb : ∀ x ∈ nms, Big ((st x).room : Rat) := fun x hx => (inv x hx).room_big
  have fo : ∀ i, i < ps.length → ∀ x ∈ nms, ((ps.take i).foldl (fst1 (beh (jus st) ps) k) st x).ks.length < 1000 ∧ (k ∈ ((ps.take i).foldl (fst1 (beh (jus st) ps) k) st x).ks → Big (((ps.take i).foldl (fst1 (beh (jus st) ps) k) st x).q k)) := fun i _ x hx => by
    have e := fold_alike (F := beh (jus st) ps) (k := k) (ps.take i) (S := st) (S' := st) (x := x) fun _ => rfl
    have e1 : ((ps.take i).foldl (fst1 (beh (jus st) ps) k) st x).ks = (lfold st k (ps.take i) x).ks := by
      have := congrArg Mo.ks e
      exact this
    have e2 : ((ps.take i).foldl (fst1 (beh (jus st) ps) k) st x).q = (lfold st k (ps.take i) x).q := by
      have := congrArg Mo.q e
      exact this
    have qi := lfold_q (k := k) (ps.take i) (jt i) (inv x hx).toQInv
    have := tk10 i
    rw [e1, e2]
    exact ⟨by have := qi.len; omega, fun hk => qi.qbig (by omega) hk⟩
  have prog : ∀ {H2 : Hp} {Q2 : VK} {B' : LAd} {st' : Str → Mo}, W2 K T.C_Moulds T.C_Mould H0 H2 b n A B' nms st st' v1 v2 v1 v2 lds lds → H2 l = some (.lst pvs) → PoursAt K H2 pvs ps →
      (∀ x, pflt nms st (jus st) ps = some (0, x) → Rf T.C_NoMould "NoMould" (.str x) H2 (tE T Q2)) → (∀ x, pflt nms st (jus st) ps = some (1, x) → Rf T.C_Cured "Cured" (.str x) H2 (tE T Q2)) → (∀ x, pflt nms st (jus st) ps = some (2, x) → Rf T.C_NoRoom "NoRoom" (.str x) H2 (tE T Q2)) →
      (pflt nms st (jus st) ps = none → ∀ G, MouldsAt K T.C_Moulds T.C_Mould G A nms (filled st k ps) v1 v2 lds → Off K (A.R nms) H2 G → Q2 .non G) → sp_Moulds_fill K T.C_Moulds T.C_Mould T.C_NoMould T.C_Cured T.C_NoRoom [.ref A.p, .int k, .ref l] H2 Q2 (tE T Q2) :=
    fun {H2 Q2 B' st'} W2' hl2 hp2 w1 w2 w3 w4 => ⟨A, nms, st, v1, v2, lds, k, l, pvs, ps, rfl, W2'.mo, SqL.of hl2, fun z => nl (.inl z), hp2.1, hp2.2, by omega, pb, bh, rb, fo, w1, w2, w3, w4⟩
  refine ⟨B.m, d, rfl, .inl ⟨k, l, ht, B, nms, st, v1, v2, lds, k, l, pvs, ps, rfl, W.la, ndN, hl, hp, by omega, fun p h => ⟨pnm_lay lay (pok p h).1, pb p h⟩, fun i p hi pn pc => ?_, fun g x e a H1 o1 h1 => ?_, fun e B' H1 em eo l1 nw n1 n2 rm o1 => ?_⟩⟩
  · have jp := ju p (List.mem_of_getElem? hi)
    have t10 := tk10 i
    have jx := lfold_inv (k := k) (ps.take i) (jt i) (inv p.1 pn) pc
    have jc := (lfold_same (k := k) (ps.take i) (S := st) (x := p.1)).2.1.trans pc
    refine ⟨jx.lfit jc (by omega) (by omega), ?_, ((ju_bok jp).big (by decide)).2.2⟩
    have bo := beh_ok (c := 1 + (ps.take i).length) [p] (F := jus (lfold st k (ps.take i))) (x := p.1) (fun p' h' => by rw [List.mem_singleton.mp h']; exact jp) jx.bok
    have b3 := (bo.big (by show 1 + (ps.take i).length + 1 ≤ 20; omega)).2.2
    have e : beh (jus (lfold st k (ps.take i))) [p] p.1 = ((lfold st k (ps.take i) p.1).s + p.2.1, (lfold st k (ps.take i) p.1).w + p.2.2) := by
      show jst (jus (lfold st k (ps.take i))) p p.1 = _
      unfold jst
      rw [set1_same] <;> rfl
    rw [e] at b3
    have e3 : (lfold st k (ps.take i) p.1).s + (lfold st k (ps.take i) p.1).w + (p.2.1 + p.2.2) = (lfold st k (ps.take i) p.1).s + p.2.1 + ((lfold st k (ps.take i) p.1).w + p.2.2) := by grind
    rw [e3]
    exact b3
  · have W1 := W.keep (R := fun _ => False) o1 (fun _ z => z.elim) (fun _ z => z.elim)
    have hl1 := o1.lst id hl
    have hp1 := hp.tk o1.tk
    have lx : PyData.canLay0 (.str x) = true := by
      have fl : ∀ (ps : List Pour) (F : Str → Ju), (∀ p ∈ ps, PourOk nms p) → ∀ g x, pflt nms st F ps = some (g, x) → PNm nms x := by
        intro ps
        induction ps with
        | nil => intro F _ g x e; cases e
        | cons p r ih =>
          intro F hp g x e
          unfold pflt at e
          have h0 := (hp p List.mem_cons_self).1
          split at e
          · cases e; exact h0
          · split at e
            · cases e; exact h0
            · split at e
              · cases e; exact h0
              · exact ih _ (fun p' h' => hp p' (List.mem_cons_of_mem _ h')) g x e
      exact pnm_lay lay (fl ps _ pok g x e)
    refine q _ _ fun Q2 out => told_of T W1.mo fun H2 s2 => .inl ⟨k, l, o1.tk _ _ ht, prog (W1.same s2) (s2 _ _ hl1) (hp1.tk (.same s2)) (fun y e' => ?_) (fun y e' => ?_) (fun y e' => ?_) (fun e' => absurd (e.symm.trans e') (fun z => by cases z))⟩
    · rw [e] at e'
      cases e'
      exact tE.rf T (.inl ⟨rfl, rfl⟩) fun a2 G s z => out _ _ (out_ref ((W1.same s2).same s) inv vok (by decide +kernel) lx h1 (.same (s2.trans s)) z)
    · rw [e] at e'
      cases e'
      exact tE.rf T (.inr (.inr (.inl ⟨rfl, rfl⟩))) fun a2 G s z => out _ _ (out_ref ((W1.same s2).same s) inv vok (by decide +kernel) lx h1 (.same (s2.trans s)) z)
    · rw [e] at e'
      cases e'
      exact tE.rf T (.inr (.inl ⟨rfl, rfl⟩)) fun a2 G s z => out _ _ (out_ref ((W1.same s2).same s) inv vok (by decide +kernel) lx h1 (.same (s2.trans s)) z)
  · have W1 := W.lawN o1 l1 nw n1 n2 rm
    have hl1 := o1.lst (fun z => nl (.inr (.inr (.inl (.inl z))))) hl
    have hp1 := hp.tk o1.tk
    have no : ∀ {g : Nat} {y : Str}, pflt nms st (jus st) ps = some (g, y) → False := fun z => by rw [e] at z; cases z
    refine q _ _ fun Q2 out => told_of T W1.mo fun H2 s2 => .inl ⟨k, l, o1.tk _ _ ht, prog (W1.same s2) (s2 _ _ hl1) (hp1.tk (.same s2)) (fun y z => (no z).elim) (fun y z => (no z).elim) (fun y z => (no z).elim) (fun _ G m3 o3 => ?_)⟩
    rw [filled_eq] at m3
    refine out _ _ ⟨A, B', _, _, _, lds, _, (W1.same s2).prog o3 m3, rfl, em, fun x hx => ?_, vok.mono (Nat.le_succ _), Nat.le_succ _, .non _, .non _⟩
    rcases pflt_none ps e x with h | ⟨hc, h⟩
    · rw [lfold_un ps h]
      exact (inv x hx).mono (Nat.le_refl _) (Nat.le_succ _)
    · have jx := lfold_inv (k := k) ps ju (inv x hx) hc
      obtain ⟨a1, a2, a3⟩ := lfold_same (k := k) ps (S := st) (x := x)
      have e4 := congrFun (lfold_jus (k := k) ps (S := st)) x
      rw [← e4, ← a1] at h
      exact (jx.tight (a2.trans hc) h).lens (Nat.le_trans lfold_len (Nat.succ_le_succ (inv x hx).len))
/-- any deed of the law -/
theorem done_any (T : All K mg) (W : W2 K T.C_Moulds T.C_Mould H0 H b n A B nms st st v1 v2 v1 v2 lds lds) (inv : ∀ x ∈ nms, JInv 1 j (st x)) (vok : VInv i v1 v2) {N : Addr → Prop} (dA : DeedAt K N H nms d) (hN : ∀ l, N l → ¬ Dm A B b nms l) (ndN : nms.Nodup) (lay : ∀ x ∈ nms, PyData.canLay0 (.str x) = true) (j9 : j < 63) (i9 : i < 300) (l9 : lds.length < 50000)
    {Q : VK} {E E2 : XK} (q : ∀ v H1, (∀ Q2, (∀ v2 H3, Out K T.C_Moulds T.C_Mould H0 b n A B nms j i lds.length v v2 H3 → Q2 v2 H3) → sp_told T [.ref A.p, .ref d] H1 Q2 E2) → Q v H1) : sp_ldone K [.ref B.m, .ref d] H Q E := by
  cases dA with
  | fill k l pvs ps ht hl hp nl k1 k9 p4 pok => exact done_fill T W inv vok ht hl (hN l nl) hp (by omega) pok ndN lay (by omega) q
  | one s x ht hs px =>
    rcases hs with rfl | rfl
    · exact done_drain T W inv vok ht px lay j9 i9 q
    · exact done_knock T W inv vok ht px lay j9 l9 q
  | draw a t ht ha ok => exact done_draw T W inv vok ht ha ok i9 q
end
section
variable {CO CM : Addr} {H0 H3 H4 H5 H6 H7 : Hp} {b : Addr} {n : Nat} {Ad : MAd} {Bd : LAd} {nms : List Str} {rs : List RM} {st st2 : Str → Mo}
/-- how a law begins: its moulds made, its own book of them -/
theorem W2.start (o03 : Off K (fun _ => False) H0 H3) (n1 : H0 b = none) (B3 : BoxAt H3 b n) (np : H3 Ad.p = none) (s34 : Same H3 H4) (hmo : MouldsAt K CO CM H5 Ad nms st 0 0 []) (so : StOf st rs) (o5 : Off K (· = Ad.p) H4 H5) (rA : ∀ a, Ad.R nms a → a = Ad.p ∨ Nw H4 a) (tA : Nw H4 Ad.t)
    (hla : LawAt K H6 Bd nms st2 0 0 []) (hrm : ∃ kvs, H6 Bd.rm = some (.dK kvs)) (so2 : StOf st2 rs) (o6 : Off K (fun _ => False) H5 H6) (rB : ∀ a, Bd.R nms a → Nw H5 a) (nrm : Nw H5 Bd.rm) (ndp2 : Nw H5 Bd.dp) (s7 : Same H6 H7) (enms : nms = rs.map (·.1)) : W2 K CO CM H0 H7 b n Ad Bd nms st st 0 0 0 0 [] [] := by
  have stE : ∀ x ∈ nms, st2 x = st x := fun x hx => by
    rw [enms] at hx
    obtain ⟨z, hz, rfl⟩ := List.mem_map.mp hx
    rw [so z hz, so2 z hz]
  obtain ⟨ys, hb3⟩ := box_lst B3
  have bp : b ≠ Ad.p := ne_of_none hb3 np
  have hb4 := s34 _ _ hb3
  have hb5 := o5.lst bp hb4
  have nw3 : ∀ {c : Addr}, Nw H3 c → Nw H0 c := fun k => Nw.back o03 id k
  have nw4 : ∀ {c : Addr}, Nw H4 c → Nw H0 c := fun k => nw3 (Nw.backS s34 k)
  have nwp : Nw H0 Ad.p := nw3 (.of np)
  have p5 : ∃ o, H5 Ad.p = some o ∧ Chg o := hmo.there (.inl rfl)
  have nw5 : ∀ {c : Addr}, Nw H5 c → Nw H0 c := fun {c} k => nw4 (Nw.back o5 (fun z => by
    obtain ⟨o, e, cc⟩ := p5
    exact k.no (z ▸ e) cc) k)
  obtain ⟨ot, et, ct⟩ := rd_ex hmo.t
  obtain ⟨kvs, ekvs⟩ := hrm
  refine ⟨(hmo.off o6 (fun _ _ => id) id).same s7, (hla.congr stE).same s7, (o6.boxAt id (o5.boxAt bp (B3.same s34))).same s7, ⟨kvs, s7 _ _ ekvs⟩, ((((o03.seq (.same s34)).trans o5 (fun c e => .inr (e ▸ nwp))).seq o6).seq (.same s7)), fun c d => ?_, fun c rc => ?_, ?_, fun c rc e => ?_, ?_⟩
  · rcases d with d | d | d | d | d | d
    · exact (rA c d).elim (fun e => e ▸ nwp) nw4
    · exact d ▸ nw4 tA
    · exact nw5 (rB c d)
    · exact d ▸ nw5 nrm
    · exact d ▸ nw5 ndp2
    · exact d ▸ .of n1
  · obtain ⟨o, e, cc⟩ := hmo.there rc
    refine ⟨fun z => (rB c z).no e cc, fun z => nrm.no (z ▸ e) cc, fun z => ndp2.no (z ▸ e) cc, fun z => ?_⟩
    rcases rA c rc with k | k
    · exact bp (z.symm.trans k)
    · exact k.no (z ▸ hb4) .lst
  · refine ⟨fun z => ?_, fun z => ?_, fun z => ?_⟩
    · obtain ⟨q', e⟩ := rB _ z ot et
      exact ct q' e
    · exact tA.no (z ▸ hb4) .lst
    · obtain ⟨q', e⟩ := nrm ot (z ▸ et)
      exact ct q' e
  · exact (rB c rc).no (e ▸ hb5) .lst
  · exact ⟨fun e => nrm.no (e ▸ hb5) .lst, fun e => ndp2.no (e ▸ hb5) .lst⟩
theorem start_inv (so : StOf st rs) (ok : ∀ z ∈ rs, RmOk z) (enms : nms = rs.map (·.1)) : (∀ x ∈ nms, JInv 1 0 (st x)) ∧ ∀ x ∈ nms, PyData.canLay0 (.str x) = true := by
  constructor
  · intro x hx
    rw [enms] at hx
    obtain ⟨z, hz, rfl⟩ := List.mem_map.mp hx
    rw [so z hz]
    exact JInv.init (ok z hz)
  · intro x hx
    rw [enms] at hx
    obtain ⟨z, hz, rfl⟩ := List.mem_map.mp hx
    exact (ok z hz).nm.lay
end

end
end KR
namespace KR
open PySem PySem.Spec PyProof.Rows L2
section
variable {P : Program} {w : World} {K : PySem.W.Frag} {mg : Str → Option Value} {base : Heap}
def sp_p_law (K : PySem.W.Frag) (Ps : List Addr) : Sp := fun vs H Q _ => ∃ (a : Addr) (ns : List Int), vs = [.ref a] ∧ SqL K H a (ns.map V.int) ∧ ns.length ≤ 63 ∧ Tbs Ps H ∧ ∀ H', Q (.bl true) H'
theorem ok_p_law (T : All K mg) (B : Tabs T base) : FnG P w K mg base 12 T.f_p_law T.fd_p_law ["_law_script"] (sp_p_law K T.Ps) := by
  refine okG T.d_p_law.fn sc_p_law (fun vs H Q E h => ?_) (fun cdv A outer s H vs Q E hr hg h => ?_)
  · obtain ⟨a, ns, rfl, _⟩ := h
    rfl
  · obtain ⟨a, ns, rfl, hS, hlen, hT, q⟩ := h
    refine ⟨_, (pss_cons (ps_set (i := 1) sc_p_law.nd rfl (by first | exact Or.inl rfl | exact Or.inr rfl) (pe_lstI (pa_cons pe_str (pa_cons pe_str (pa_cons pe_str (pa_cons pe_str (pa_cons pe_str (pa_cons pe_str pa_nil))))))))
      (pss_cons (ps_for PassesOwn.never rfl (pi_range1 (by rfl) T.b_range (pa_cons (pe_op op_add pe_int (pe_callB (call_min2 rfl) (by rfl) T.b_min (by decide +kernel) (pa_cons pe_int (pa_cons (pe_callB (lenQ (K := K) rfl) (by rfl) T.b_len PySem.boot_len (pa_cons (pv 0) pa_nil)) pa_nil)))) pa_nil)) (pg_name (i := 2) sc_p_law.nd rfl (by first | exact Or.inl rfl | exact Or.inr rfl)) (pss_cons (ps_set (i := 3) sc_p_law.nd rfl (by first | exact Or.inl rfl | exact Or.inr rfl) (pe_call (ok_l_box T) (hr.mono (by decide)) (by rfl) T.d_l_box.mg T.d_l_box.fn.kp T.d_l_box.b .nil pass0 (pa_cons (pv 0) (pa_cons (pv 2) pa_nil))))
      (pss_cons (ps_set (i := 4) sc_p_law.nd rfl (by first | exact Or.inl rfl | exact Or.inr rfl) (pe_call (ok_l_row T B) (hr.mono (by decide)) (by rfl) T.d_l_row.mg T.d_l_row.fn.kp T.d_l_row.b .nil pass0 (pa_cons (pv 3) (pa_cons (pe_op op_add pe_int (pe_call (ok_l_take T) (hr.mono (by decide)) (by rfl) T.d_l_take.mg T.d_l_take.fn.kp T.d_l_take.b .nil pass0 (pa_cons (pv 3) (pa_cons pe_int pa_nil)))) (pa_cons pe_bl pa_nil)))))
      (pss_cons (ps_par (i := 5) (j := 6) (by rfl) sc_p_law.nd rfl rfl (by decide) rfl rfl (pa_cons (pe_make T.M_Moulds (ok_Moulds_init T) (hr.mono (by decide)) (by rfl) T.g_Moulds T.b_Moulds_init .nil pass0 (pa_cons (pv 4) pa_nil)) (pa_cons (pe_call (ok_l_new T) (hr.mono (by decide)) (by rfl) T.d_l_new.mg T.d_l_new.fn.kp T.d_l_new.b .nil pass0 (pa_cons (pv 4) pa_nil)) pa_nil)) (by rfl))
      (pss_cons (ps_for PassesOwn.never rfl (pi_range1 (by rfl) T.b_range (pa_cons (pe_op op_add pe_int (pe_call (ok_l_take T) (hr.mono (by decide)) (by rfl) T.d_l_take.mg T.d_l_take.fn.kp T.d_l_take.b .nil pass0 (pa_cons (pv 3) (pa_cons pe_int pa_nil)))) pa_nil)) (pg_name (i := 7) sc_p_law.nd rfl (by first | exact Or.inl rfl | exact Or.inr rfl)) (pss_cons (ps_set (i := 8) sc_p_law.nd rfl (by first | exact Or.inl rfl | exact Or.inr rfl) (pe_call (ok_l_deed T) (hr.mono (by decide)) (by rfl) T.d_l_deed.mg T.d_l_deed.fn.kp T.d_l_deed.b .nil pass0 (pa_cons (pv 3) (pa_cons (pv 6) (pa_cons (pv 1) pa_nil)))))
      (pss_cons (ps_set (i := 9) sc_p_law.nd rfl (by first | exact Or.inl rfl | exact Or.inr rfl) (pe_call (ok_l_done T) (hr.mono (by decide)) (by rfl) T.d_l_done.mg T.d_l_done.fn.kp T.d_l_done.b .nil pass0 (pa_cons (pv 6) (pa_cons (pv 8) pa_nil))))
      (pss_cons (ps_if (PW.pt (pw_or (pt_not (pt_val (pe_call (ok_l_same T) (hr.mono (by decide)) (by rfl) T.d_l_same.mg T.d_l_same.fn.kp T.d_l_same.b .nil pass0 (pa_cons (pe_call (ok_l_told T) (hr.mono (by decide)) (by rfl) T.d_l_told.mg T.d_l_told.fn.kp T.d_l_told.b .nil pass0 (pa_cons (pv 5) (pa_cons (pv 8) pa_nil))) (pa_cons (pv 9) pa_nil))))) (pw_or1 (pt_not (pt_val (pe_call (ok_l_stands T) (hr.mono (by decide)) (by rfl) T.d_l_stands.mg T.d_l_stands.fn.kp T.d_l_stands.b .nil pass0 (pa_cons (pv 5) (pa_cons (pv 6) pa_nil)))))))) (pss_one (ps_ret pe_bl)) pss_nil)
      (pss_cons (ps_expr (pe_bm PySem.F.plainAttrs_list PySem.F.slot_list_append PySem.F.type_list_append mt_append (pe_meth0 (pv 5) T.L_Moulds T.m_Moulds_loaves (ok_Moulds_loaves T) (hr.mono (by decide)) T.b_Moulds_loaves .nil pass0) (pa_cons pe_str pa_nil)))
      (pss_one (ps_expr (pe_bm0 PySem.F.plainAttrs_list PySem.F.slot_list_reverse PySem.F.type_list_reverse mt_reverse (pe_meth0 (pv 5) T.L_Moulds T.m_Moulds_mould_names (ok_Moulds_mould_names T) (hr.mono (by decide)) T.b_Moulds_mould_names .nil pass0)))))))))
      (pss_one (ps_if (pt_not (pt_val (pe_call (ok_l_stands T) (hr.mono (by decide)) (by rfl) T.d_l_stands.mg T.d_l_stands.fn.kp T.d_l_stands.b .nil pass0 (pa_cons (pv 5) (pa_cons (pv 6) pa_nil))))) (pss_one (ps_ret pe_bl)) pss_nil)))))))
      (pss_one (ps_ret pe_bl)))), ?_⟩
    obtain ⟨M, eM, M5⟩ : ∃ M : Nat, 1 + (if (ns.length : Int) < 4 then (ns.length : Int) else 4) = (M : Int) ∧ M ≤ 5 := by
      refine ⟨(1 + (if (ns.length : Int) < 4 then (ns.length : Int) else 4)).toNat, ?_, ?_⟩ <;> split <;> omega
    refine ⟨rfl, fun so Hs ss ns0 hs => ?_⟩
    obtain ⟨srt, esrt, sne, s10, sok⟩ : ∃ l : List Str, [V.str "fill", V.str "fill", V.str "drain", V.str "drain", V.str "knock", V.str "knock"] = l.map V.str ∧ l ≠ [] ∧ l.length ≤ 10 ∧ ∀ x ∈ l, Srt x := ⟨["fill", "fill", "drain", "drain", "knock", "knock"], rfl, by decide, by decide, by unfold Srt; decide +kernel⟩
    have hs' : Hs so = some (.lst (srt.map V.str)) := by rw [← esrt]; exact hs
    have hSs := ss.seq hS
    have hTs := hT.same ss
    refine ⟨_, rfl, a, _, rfl, .inl hSs, _, _, rfl, _, _, rfl, rfl, M, ?_, by omega, by omega, ?_⟩
    · rw [← eM, List.length_map] <;> rfl
    refine for_range (lo := 0) (n := M) (fun i σ H' => ∃ (x2 x3 x4 x5 x6 x7 x8 x9 : Option V), σ = [some (.ref a), some (.ref so), x2, x3, x4, x5, x6, x7, x8, x9] ∧ SqL K H' a (ns.map V.int) ∧ Tbs T.Ps H' ∧ H' so = some (.lst (srt.map V.str))) ⟨none, none, none, none, none, none, none, none, rfl, hSs, hTs, hs'⟩ ?_ ?_
    case' refine_2 =>
      rintro σ H' ⟨x2, x3, x4, x5, x6, x7, x8, x9, rfl, _, _⟩
      exact q _
    rintro i σ H0 hi ⟨x2, x3, x4, x5, x6, x7, x8, x9, rfl, hS0, hT0, hs0⟩
    refine ⟨_, rfl, _, rfl, a, ns, 0 + (i : Int), rfl, hS0, by omega, by omega, fun b H1 s1 n1 B1 => ?_⟩
    refine ⟨_, rfl, _, rfl, b, 4, 0, rfl, B1, by omega, by decide, by decide, fun z H2 z0 z1 B2 F2 => ⟨_, _, rfl, rfl, ?_⟩⟩
    have o02 : Off K (fun _ => False) H0 H2 := (Off.same s1).trans (.box B1 F2) fun a e => .inr (.of (by rw [e]; exact n1))
    refine ⟨b, 1, (1 + z).toNat, false, ?_, by omega, by omega, B2, by omega, o02.tbs hT0, fun r dr kk m xs rs H3 hr3 nwr hm3 len3 rm3 nd3 many ok3 B3 o3 => ?_⟩
    · show [V.ref b, V.int (1 + z), V.bl false] = [V.ref b, V.int ((1 + z).toNat : Int), V.bl false]
      rw [show (((1 + z).toNat : Nat) : Int) = 1 + z by omega]
    have o03 : Off K (fun _ => False) H0 H3 := o02.trans o3 fun a e => .inr (by rw [e]; exact Nw.of n1)
    refine ⟨_, rfl, fun p dp np ndp nep => ?_⟩
    have s34 : Same H3 (upd (upd H3 dp (.own p)) p (.ins T.C_Moulds dp [])) := make_same np ndp
    have hp4 : (upd (upd H3 dp (.own p)) p (.ins T.C_Moulds dp [])) p = some (.ins T.C_Moulds dp []) := upd_same
    have nrp : r ≠ p := ne_of_none hr3 np
    refine ⟨p, dp, r, dr, kk, m, xs, rs, rfl, hp4, s34 _ _ hr3, Same.tup s34 hm3, len3, fun i v z a b => (rm3 i v z a b).tk (TK.same s34), nd3, by omega, fun Ad st H5 eA hmo so5 o5 rA tA => ⟨rfl, ?_⟩⟩
    generalize upd (upd H3 dp (.own p)) p (.ins T.C_Moulds dp []) = H4 at s34 hp4 o5 rA tA
    obtain rfl : p = Ad.p := eA.symm
    have hr5 := o5.ins nrp (s34 _ _ hr3)
    refine ⟨_, rfl, r, dr, kk, m, xs, rs, rfl, hr5, o5.tk _ _ (Same.tup s34 hm3), len3, fun i v z a b => ((rm3 i v z a b).tk (TK.same s34)).tk o5.tk, nd3, by omega, fun Bd st2 H6 hla hrm so2 o6 rB nrm ndp2 => ⟨_, _, rfl, ?_⟩⟩
    obtain ⟨nms, enms⟩ : ∃ nms, nms = rs.map (·.1) := ⟨_, rfl⟩
    rw [← enms] at hmo hla rA rB nd3
    obtain ⟨inv0, layN⟩ := start_inv so5 (fun z hz => (ok3 z hz).1) enms
    have lnm : nms.length = (1 + z).toNat := by rw [enms, List.length_map, many]
    have nne : nms ≠ [] := fun e => by rw [e] at lnm; simp only [List.length_nil] at lnm; omega
    have W := W2.start o03 n1 B3 np s34 hmo so5 o5 rA tA hla hrm so2 o6 rB nrm ndp2 (fun _ _ e => e) enms
    clear hmo hla so5 so2 rA rB tA o5 o6 hr5 hm3 rm3 hr3 nwr o3 o03 o02 hrm nrm ndp2 s34 hp4 B3
    refine ⟨_, rfl, b, 21, _, rfl, W.bx, by omega, by decide, by decide, fun z2 H8 c0 c1 B8 F8 => ⟨_, _, rfl, rfl, ?_⟩⟩
    have W8 := W.box F8 B8
    obtain ⟨M2, eM2, M60⟩ : ∃ M2 : Nat, (20 : Int) + z2 = (M2 : Int) ∧ M2 ≤ 60 := ⟨(20 + z2).toNat, by omega, by omega⟩
    refine ⟨M2, by rw [← eM2] <;> rfl, by omega, by omega, ?_⟩
    refine for_range (lo := 0) (n := M2) (fun t σ H' => ∃ (A : MAd) (Bq : LAd) (st : Str → Mo) (v1 v2 : Rat) (lds : List PyData) (x7 x8 x9 : Option V), σ = [some (.ref a), some (.ref so), some (.int (0 + (i : Int))), some (.ref b), some (.ref r), some (.ref A.p), some (.ref Bq.m), x7, x8, x9] ∧ W2 K T.C_Moulds T.C_Mould H0 H' b (310 + 60 * t) A Bq nms st st v1 v2 v1 v2 lds lds ∧ (∀ x ∈ nms, JInv 1 t (st x)) ∧ VInv t v1 v2 ∧ lds.length ≤ t) ⟨Ad, Bd, st, 0, 0, [], _, _, _, rfl, W8.box Fr.refl (W8.bx.mono (by omega)), inv0, VInv.init, Nat.le_refl _⟩ ?_ ?_
    case' refine_2 =>
      rintro σ H' ⟨A, Bq, st, v1, v2, lds, x7, x8, x9, rfl, Wj, invj, vokj, _⟩
      refine ⟨_, rfl, _, rfl, A, Bq, nms, st, v1, v2, lds, rfl, Wj.mo, Wj.la, fun x hx => ⟨(invj x hx).fit (by decide) (by omega), layN x hx⟩, fun H5 s5 => ⟨_, rfl, ?_⟩⟩
      refine iteF ?_
      have Wk := Wj.same s5
      exact ⟨_, _, _, _, _, _, _, _, rfl, Wk.oH.seqL id hS0, Wk.oH.tbs hT0, Wk.oH.lst id hs0⟩
    clear W W8 inv0 B8 F8
    rintro t σ H9 ht ⟨A, Bq, st, v1, v2, lds, x7, x8, x9, rfl, W9, inv, vok, ll⟩
    have hs9 := W9.oH.lst id hs0
    have sob : so ≠ b := ne_of_none hs0 n1
    refine ⟨_, rfl, _, rfl, _, rfl, b, so, 310 + 60 * t, Bq, nms, st, v1, v2, lds, srt, rfl, W9.bx, by omega, W9.la, W9.d3, W9.d4.1, W9.d4.2, SqL.of hs9, sob, sne, s10, sok, nne, by omega, fun x hx => ⟨layN x hx, (inv x hx).r0, (inv x hx).r1⟩, fun d HA BA oA dA => ⟨_, rfl, _, rfl, ?_⟩⟩
    have WA := W9.boxO oA BA
    dsimp only [tNil, List.append_nil]
    refine done_any T WA inv vok dA (fun l nl => W9.out nl) nd3 layN (by omega) (by omega) (by omega) (E2 := E0) fun v H1 told => ?_
    refine ⟨_, rfl, _, rfl, told _ fun v2 H3 out => ?_⟩
    obtain ⟨A', B', st', w1, w2, lds', dat, W3, eA', eB', inv', vok', ll', k1, k2⟩ := out
    refine ⟨_, rfl, v2, v, dat, rfl, k2, k1, fun H4 s4 => ⟨_, rfl, ?_⟩⟩
    refine iteF ?_
    have W4 := W3.same s4
    refine ⟨_, rfl, _, rfl, A', B', nms, st', w1, w2, lds', by rw [eA', eB'] <;> rfl, W4.mo, W4.la, fun x hx => ⟨(inv' x hx).fit (by decide) (by omega), layN x hx⟩, fun H5 s5 => ⟨_, rfl, ?_⟩⟩
    refine iteF ?_
    have W5 := W4.same s5
    obtain ⟨dx, rv, vv, p1, _⟩ := W5.mo.p
    refine ⟨_, by rw [← eA'] <;> rfl, A'.p, dx, _, rfl, p1, rfl, A', nms, st', w1, w2, lds', rfl, W5.mo, fun l H6 lvs s6 n6 h6 l9 al6 => ?_⟩
    have W6 := W5.same s6
    have nl : ¬ Dm A' B' b nms l := W5.out (.of n6)
    have nw : Nw H0 l := Nw.back W5.oH id (.of n6)
    refine ⟨.inl ⟨rfl, _, SqL.of h6⟩, l, lvs, _, rfl, rfl, h6, small' (by omega), ?_⟩
    have W7 := W6.keep (R := (· = l)) (.put h6 .lst rfl (o2 := .lst (lvs ++ [.str "more"]))) (fun a e => e ▸ nl) (fun a e => e ▸ nw)
    obtain ⟨dx2, rv2, vv2, p2, _⟩ := W7.mo.p
    refine ⟨_, by rw [← eA'] <;> rfl, A'.p, dx2, _, rfl, p2, rfl, A', nms, st', w1, w2, lds', rfl, W7.mo, fun l2 H8 s8 n8 h8 => ?_⟩
    have W8 := W7.same s8
    have nl2 : ¬ Dm A' B' b nms l2 := W7.out (.of n8)
    have nw2 : Nw H0 l2 := Nw.back W7.oH id (.of n8)
    refine ⟨.inl ⟨rfl, _, SqL.of h8⟩, l2, _, rfl, rfl, h8, ?_⟩
    have W9 := W8.keep (R := (· = l2)) (.put h8 .lst rfl (o2 := .lst (nms.map V.str).reverse)) (fun a e => e ▸ nl2) (fun a e => e ▸ nw2)
    exact ⟨A', B', st', w1, w2, lds', _, _, _, by rw [eA', eB'] <;> rfl, W9.box Fr.refl (W9.bx.mono (by omega)), inv', vok', by omega⟩

end
end KR
namespace KR
open PySem PySem.Spec PyProof.Rows L2
theorem all_mk {l : PySem.W.OpenLaw} {w : World} {K : PySem.W.Frag} {h : Heap} {mg : Str → Option Value} {fa : Addr} (X : K.In h) (G : h.Ns mainGlobals mg) (hfa : mg "law" = some (.ref fa))
    {C_Row : Addr} (g_Row : PySem.W.nsIn K mainGlobals "Row" = some (some (.ref C_Row))) (pg_Row : PySem.W.plainGet K C_Row Str.empty = true) (hd_Row : PySem.W.hasDictIn K C_Row = true) (po_Row : PySem.W.plainOver K C_Row = true) (sa_Row : PySem.W.findIn K (.ref C_Row) "__setattr__" = some (some (.builtin "object.__setattr__"))) (mk_Row : PySem.W.makesIn K C_Row = true) (kc_Row : PySem.W.keepIn K (.ref C_Row) = true)
    (nf_Row_kettles : PySem.W.findIn K (.ref C_Row) "kettles" = some none)
    (nf_Row_moulds : PySem.W.findIn K (.ref C_Row) "moulds" = some none)
    {C_SameRow : Addr} (g_SameRow : PySem.W.nsIn K mainGlobals "SameRow" = some (some (.ref C_SameRow))) (pg_SameRow : PySem.W.plainGet K C_SameRow Str.empty = true) (hd_SameRow : PySem.W.hasDictIn K C_SameRow = true) (po_SameRow : PySem.W.plainOver K C_SameRow = true) (sa_SameRow : PySem.W.findIn K (.ref C_SameRow) "__setattr__" = some (some (.builtin "object.__setattr__"))) (mk_SameRow : PySem.W.makesIn K C_SameRow = true) (kc_SameRow : PySem.W.keepIn K (.ref C_SameRow) = true)
    (nf_SameRow_kettles : PySem.W.findIn K (.ref C_SameRow) "kettles" = some none)
    (nf_SameRow_moulds : PySem.W.findIn K (.ref C_SameRow) "moulds" = some none)
    {C_Mould : Addr} (g_Mould : PySem.W.nsIn K mainGlobals "Mould" = some (some (.ref C_Mould))) (pg_Mould : PySem.W.plainGet K C_Mould Str.empty = true) (hd_Mould : PySem.W.hasDictIn K C_Mould = true) (po_Mould : PySem.W.plainOver K C_Mould = true) (sa_Mould : PySem.W.findIn K (.ref C_Mould) "__setattr__" = some (some (.builtin "object.__setattr__"))) (mk_Mould : PySem.W.makesIn K C_Mould = true) (kc_Mould : PySem.W.keepIn K (.ref C_Mould) = true)
    (nf_Mould_room : PySem.W.findIn K (.ref C_Mould) "room" = some none)
    (nf_Mould_drip : PySem.W.findIn K (.ref C_Mould) "drip" = some none)
    (nf_Mould_juice : PySem.W.findIn K (.ref C_Mould) "juice" = some none)
    (nf_Mould_sugars : PySem.W.findIn K (.ref C_Mould) "sugars" = some none)
    (nf_Mould_cured : PySem.W.findIn K (.ref C_Mould) "cured" = some none)
    {C_Moulds : Addr} (g_Moulds : PySem.W.nsIn K mainGlobals "Moulds" = some (some (.ref C_Moulds))) (pg_Moulds : PySem.W.plainGet K C_Moulds Str.empty = true) (hd_Moulds : PySem.W.hasDictIn K C_Moulds = true) (po_Moulds : PySem.W.plainOver K C_Moulds = true) (sa_Moulds : PySem.W.findIn K (.ref C_Moulds) "__setattr__" = some (some (.builtin "object.__setattr__"))) (mk_Moulds : PySem.W.makesIn K C_Moulds = true) (kc_Moulds : PySem.W.keepIn K (.ref C_Moulds) = true)
    (nf_Moulds__row : PySem.W.findIn K (.ref C_Moulds) "_row" = some none)
    (nf_Moulds__table : PySem.W.findIn K (.ref C_Moulds) "_table" = some none)
    (nf_Moulds__vat : PySem.W.findIn K (.ref C_Moulds) "_vat" = some none)
    (nf_Moulds__loaves : PySem.W.findIn K (.ref C_Moulds) "_loaves" = some none)
    {od0 an0 : Option Addr} {sl0 : Array (Option Value)} {oc0 kV0 dc0 pm0 cd0 ct0 : Value} {f0 : Addr}
    (a0 : PySem.W.findIn K (.ref C_Moulds) "_named" = some (some (.ref f0))) (l0 : K.lookup f0 = some ⟨oc0, od0, .func (PySem.W.fnOf "_named" "Moulds._named" (defArgs s_Moulds__named) (defBody s_Moulds__named) (defScope s_Moulds__named) .none kV0 dc0 pm0 an0 cd0 ct0), sl0⟩) (c0 : PySem.W.codeIn K cd0 "Moulds._named" = true) (k0 : PySem.W.keepIn K (.ref f0) = true) (i0 : PySem.W.isFn K (.ref f0) = true)
    {od1 an1 : Option Addr} {sl1 : Array (Option Value)} {oc1 kV1 dc1 pm1 cd1 ct1 : Value} {f1 : Addr}
    (a1 : PySem.W.findIn K (.ref C_Moulds) "_juices_behind" = some (some (.ref f1))) (l1 : K.lookup f1 = some ⟨oc1, od1, .func (PySem.W.fnOf "_juices_behind" "Moulds._juices_behind" (defArgs s_Moulds__juices_behind) (defBody s_Moulds__juices_behind) (defScope s_Moulds__juices_behind) .none kV1 dc1 pm1 an1 cd1 ct1), sl1⟩) (c1 : PySem.W.codeIn K cd1 "Moulds._juices_behind" = true) (k1 : PySem.W.keepIn K (.ref f1) = true) (i1 : PySem.W.isFn K (.ref f1) = true)
    {od2 an2 : Option Addr} {sl2 : Array (Option Value)} {oc2 kV2 dc2 pm2 cd2 ct2 : Value} {f2 : Addr}
    (a2 : PySem.W.findIn K (.ref C_Moulds) "loaves" = some (some (.ref f2))) (l2 : K.lookup f2 = some ⟨oc2, od2, .func (PySem.W.fnOf "loaves" "Moulds.loaves" (defArgs s_Moulds_loaves) (defBody s_Moulds_loaves) (defScope s_Moulds_loaves) .none kV2 dc2 pm2 an2 cd2 ct2), sl2⟩) (c2 : PySem.W.codeIn K cd2 "Moulds.loaves" = true) (k2 : PySem.W.keepIn K (.ref f2) = true) (i2 : PySem.W.isFn K (.ref f2) = true)
    {od3 an3 : Option Addr} {sl3 : Array (Option Value)} {oc3 kV3 dc3 pm3 cd3 ct3 : Value} {f3 : Addr}
    (a3 : PySem.W.findIn K (.ref C_Moulds) "vat" = some (some (.ref f3))) (l3 : K.lookup f3 = some ⟨oc3, od3, .func (PySem.W.fnOf "vat" "Moulds.vat" (defArgs s_Moulds_vat) (defBody s_Moulds_vat) (defScope s_Moulds_vat) .none kV3 dc3 pm3 an3 cd3 ct3), sl3⟩) (c3 : PySem.W.codeIn K cd3 "Moulds.vat" = true) (k3 : PySem.W.keepIn K (.ref f3) = true) (i3 : PySem.W.isFn K (.ref f3) = true)
    {od4 an4 : Option Addr} {sl4 : Array (Option Value)} {oc4 kV4 dc4 pm4 cd4 ct4 : Value} {f4 : Addr}
    (a4 : PySem.W.findIn K (.ref C_Moulds) "bears" = some (some (.ref f4))) (l4 : K.lookup f4 = some ⟨oc4, od4, .func (PySem.W.fnOf "bears" "Moulds.bears" (defArgs s_Moulds_bears) (defBody s_Moulds_bears) (defScope s_Moulds_bears) .none kV4 dc4 pm4 an4 cd4 ct4), sl4⟩) (c4 : PySem.W.codeIn K cd4 "Moulds.bears" = true) (k4 : PySem.W.keepIn K (.ref f4) = true) (i4 : PySem.W.isFn K (.ref f4) = true)
    {od5 an5 : Option Addr} {sl5 : Array (Option Value)} {oc5 kV5 dc5 pm5 cd5 ct5 : Value} {f5 : Addr}
    (a5 : PySem.W.findIn K (.ref C_Moulds) "is_cured" = some (some (.ref f5))) (l5 : K.lookup f5 = some ⟨oc5, od5, .func (PySem.W.fnOf "is_cured" "Moulds.is_cured" (defArgs s_Moulds_is_cured) (defBody s_Moulds_is_cured) (defScope s_Moulds_is_cured) .none kV5 dc5 pm5 an5 cd5 ct5), sl5⟩) (c5 : PySem.W.codeIn K cd5 "Moulds.is_cured" = true) (k5 : PySem.W.keepIn K (.ref f5) = true) (i5 : PySem.W.isFn K (.ref f5) = true)
    {od6 an6 : Option Addr} {sl6 : Array (Option Value)} {oc6 kV6 dc6 pm6 cd6 ct6 : Value} {f6 : Addr}
    (a6 : PySem.W.findIn K (.ref C_Moulds) "juice_in" = some (some (.ref f6))) (l6 : K.lookup f6 = some ⟨oc6, od6, .func (PySem.W.fnOf "juice_in" "Moulds.juice_in" (defArgs s_Moulds_juice_in) (defBody s_Moulds_juice_in) (defScope s_Moulds_juice_in) .none kV6 dc6 pm6 an6 cd6 ct6), sl6⟩) (c6 : PySem.W.codeIn K cd6 "Moulds.juice_in" = true) (k6 : PySem.W.keepIn K (.ref f6) = true) (i6 : PySem.W.isFn K (.ref f6) = true)
    {od7 an7 : Option Addr} {sl7 : Array (Option Value)} {oc7 kV7 dc7 pm7 cd7 ct7 : Value} {f7 : Addr}
    (a7 : PySem.W.findIn K (.ref C_Moulds) "mould_names" = some (some (.ref f7))) (l7 : K.lookup f7 = some ⟨oc7, od7, .func (PySem.W.fnOf "mould_names" "Moulds.mould_names" (defArgs s_Moulds_mould_names) (defBody s_Moulds_mould_names) (defScope s_Moulds_mould_names) .none kV7 dc7 pm7 an7 cd7 ct7), sl7⟩) (c7 : PySem.W.codeIn K cd7 "Moulds.mould_names" = true) (k7 : PySem.W.keepIn K (.ref f7) = true) (i7 : PySem.W.isFn K (.ref f7) = true)
    {od8 an8 : Option Addr} {sl8 : Array (Option Value)} {oc8 kV8 dc8 pm8 cd8 ct8 : Value} {f8 : Addr}
    (a8 : PySem.W.findIn K (.ref C_Moulds) "draw_off" = some (some (.ref f8))) (l8 : K.lookup f8 = some ⟨oc8, od8, .func (PySem.W.fnOf "draw_off" "Moulds.draw_off" (defArgs s_Moulds_draw_off) (defBody s_Moulds_draw_off) (defScope s_Moulds_draw_off) .none kV8 dc8 pm8 an8 cd8 ct8), sl8⟩) (c8 : PySem.W.codeIn K cd8 "Moulds.draw_off" = true) (k8 : PySem.W.keepIn K (.ref f8) = true) (i8 : PySem.W.isFn K (.ref f8) = true)
    {od9 an9 : Option Addr} {sl9 : Array (Option Value)} {oc9 kV9 dc9 pm9 cd9 ct9 : Value} {f9 : Addr}
    (a9 : PySem.W.findIn K (.ref C_Moulds) "knock" = some (some (.ref f9))) (l9 : K.lookup f9 = some ⟨oc9, od9, .func (PySem.W.fnOf "knock" "Moulds.knock" (defArgs s_Moulds_knock) (defBody s_Moulds_knock) (defScope s_Moulds_knock) .none kV9 dc9 pm9 an9 cd9 ct9), sl9⟩) (c9 : PySem.W.codeIn K cd9 "Moulds.knock" = true) (k9 : PySem.W.keepIn K (.ref f9) = true) (i9 : PySem.W.isFn K (.ref f9) = true)
    {od10 an10 : Option Addr} {sl10 : Array (Option Value)} {oc10 kV10 dc10 pm10 cd10 ct10 : Value} {f10 : Addr}
    (a10 : PySem.W.findIn K (.ref C_Moulds) "drain" = some (some (.ref f10))) (l10 : K.lookup f10 = some ⟨oc10, od10, .func (PySem.W.fnOf "drain" "Moulds.drain" (defArgs s_Moulds_drain) (defBody s_Moulds_drain) (defScope s_Moulds_drain) .none kV10 dc10 pm10 an10 cd10 ct10), sl10⟩) (c10 : PySem.W.codeIn K cd10 "Moulds.drain" = true) (k10 : PySem.W.keepIn K (.ref f10) = true) (i10 : PySem.W.isFn K (.ref f10) = true)
    {od11 an11 : Option Addr} {sl11 : Array (Option Value)} {oc11 kV11 dc11 pm11 cd11 ct11 : Value} {f11 : Addr}
    (a11 : PySem.W.findIn K (.ref C_Moulds) "fill" = some (some (.ref f11))) (l11 : K.lookup f11 = some ⟨oc11, od11, .func (PySem.W.fnOf "fill" "Moulds.fill" (defArgs s_Moulds_fill) (defBody s_Moulds_fill) (defScope s_Moulds_fill) .none kV11 dc11 pm11 an11 cd11 ct11), sl11⟩) (c11 : PySem.W.codeIn K cd11 "Moulds.fill" = true) (k11 : PySem.W.keepIn K (.ref f11) = true) (i11 : PySem.W.isFn K (.ref f11) = true)
    {od12 an12 : Option Addr} {sl12 : Array (Option Value)} {oc12 kV12 dc12 pm12 cd12 ct12 : Value} {f12 : Addr}
    (a12 : PySem.W.findIn K (.ref C_Moulds) "__init__" = some (some (.ref f12))) (l12 : K.lookup f12 = some ⟨oc12, od12, .func (PySem.W.fnOf "__init__" "Moulds.__init__" (defArgs s_Moulds_init) (defBody s_Moulds_init) (defScope s_Moulds_init) .none kV12 dc12 pm12 an12 cd12 ct12), sl12⟩) (c12 : PySem.W.codeIn K cd12 "Moulds.__init__" = true) (k12 : PySem.W.keepIn K (.ref f12) = true) (i12 : PySem.W.isFn K (.ref f12) = true)
    {od13 an13 : Option Addr} {sl13 : Array (Option Value)} {oc13 kV13 dc13 pm13 cd13 ct13 : Value} {f13 : Addr}
    (a13 : PySem.W.findIn K (.ref C_Mould) "clear_out" = some (some (.ref f13))) (l13 : K.lookup f13 = some ⟨oc13, od13, .func (PySem.W.fnOf "clear_out" "Mould.clear_out" (defArgs s_Mould_clear_out) (defBody s_Mould_clear_out) (defScope s_Mould_clear_out) .none kV13 dc13 pm13 an13 cd13 ct13), sl13⟩) (c13 : PySem.W.codeIn K cd13 "Mould.clear_out" = true) (k13 : PySem.W.keepIn K (.ref f13) = true) (i13 : PySem.W.isFn K (.ref f13) = true)
    {od14 an14 : Option Addr} {sl14 : Array (Option Value)} {oc14 kV14 dc14 pm14 cd14 ct14 : Value} {f14 : Addr}
    (a14 : PySem.W.findIn K (.ref C_Mould) "drip_out" = some (some (.ref f14))) (l14 : K.lookup f14 = some ⟨oc14, od14, .func (PySem.W.fnOf "drip_out" "Mould.drip_out" (defArgs s_Mould_drip_out) (defBody s_Mould_drip_out) (defScope s_Mould_drip_out) .none kV14 dc14 pm14 an14 cd14 ct14), sl14⟩) (c14 : PySem.W.codeIn K cd14 "Mould.drip_out" = true) (k14 : PySem.W.keepIn K (.ref f14) = true) (i14 : PySem.W.isFn K (.ref f14) = true)
    {od15 an15 : Option Addr} {sl15 : Array (Option Value)} {oc15 kV15 dc15 pm15 cd15 ct15 : Value} {f15 : Addr}
    (a15 : PySem.W.findIn K (.ref C_Mould) "strike_shares" = some (some (.ref f15))) (l15 : K.lookup f15 = some ⟨oc15, od15, .func (PySem.W.fnOf "strike_shares" "Mould.strike_shares" (defArgs s_Mould_strike_shares) (defBody s_Mould_strike_shares) (defScope s_Mould_strike_shares) .none kV15 dc15 pm15 an15 cd15 ct15), sl15⟩) (c15 : PySem.W.codeIn K cd15 "Mould.strike_shares" = true) (k15 : PySem.W.keepIn K (.ref f15) = true) (i15 : PySem.W.isFn K (.ref f15) = true)
    {od16 an16 : Option Addr} {sl16 : Array (Option Value)} {oc16 kV16 dc16 pm16 cd16 ct16 : Value} {f16 : Addr}
    (a16 : PySem.W.findIn K (.ref C_Mould) "bear" = some (some (.ref f16))) (l16 : K.lookup f16 = some ⟨oc16, od16, .func (PySem.W.fnOf "bear" "Mould.bear" (defArgs s_Mould_bear) (defBody s_Mould_bear) (defScope s_Mould_bear) .none kV16 dc16 pm16 an16 cd16 ct16), sl16⟩) (c16 : PySem.W.codeIn K cd16 "Mould.bear" = true) (k16 : PySem.W.keepIn K (.ref f16) = true) (i16 : PySem.W.isFn K (.ref f16) = true)
    {od17 an17 : Option Addr} {sl17 : Array (Option Value)} {oc17 kV17 dc17 pm17 cd17 ct17 : Value} {f17 : Addr}
    (a17 : PySem.W.findIn K (.ref C_Mould) "__init__" = some (some (.ref f17))) (l17 : K.lookup f17 = some ⟨oc17, od17, .func (PySem.W.fnOf "__init__" "Mould.__init__" (defArgs s_Mould_init) (defBody s_Mould_init) (defScope s_Mould_init) .none kV17 dc17 pm17 an17 cd17 ct17), sl17⟩) (c17 : PySem.W.codeIn K cd17 "Mould.__init__" = true) (k17 : PySem.W.keepIn K (.ref f17) = true) (i17 : PySem.W.isFn K (.ref f17) = true)
    {od18 an18 : Option Addr} {sl18 : Array (Option Value)} {oc18 kV18 dc18 pm18 cd18 ct18 : Value} {f18 : Addr}
    (a18 : PySem.W.findIn K (.ref C_SameRow) "__init__" = some (some (.ref f18))) (l18 : K.lookup f18 = some ⟨oc18, od18, .func (PySem.W.fnOf "__init__" "SameRow.__init__" (defArgs s_SameRow_init) (defBody s_SameRow_init) (defScope s_SameRow_init) .none kV18 dc18 pm18 an18 cd18 ct18), sl18⟩) (c18 : PySem.W.codeIn K cd18 "SameRow.__init__" = true) (k18 : PySem.W.keepIn K (.ref f18) = true) (i18 : PySem.W.isFn K (.ref f18) = true)
    {od19 an19 : Option Addr} {sl19 : Array (Option Value)} {oc19 kV19 dc19 pm19 cd19 ct19 : Value} {f19 : Addr}
    (a19 : PySem.W.findIn K (.ref C_Row) "__init__" = some (some (.ref f19))) (l19 : K.lookup f19 = some ⟨oc19, od19, .func (PySem.W.fnOf "__init__" "Row.__init__" (defArgs s_Row_init) (defBody s_Row_init) (defScope s_Row_init) .none kV19 dc19 pm19 an19 cd19 ct19), sl19⟩) (c19 : PySem.W.codeIn K cd19 "Row.__init__" = true) (k19 : PySem.W.keepIn K (.ref f19) = true) (i19 : PySem.W.isFn K (.ref f19) = true)
    {od20 an20 : Option Addr} {sl20 : Array (Option Value)} {oc20 kV20 dc20 pm20 cd20 ct20 : Value} {f20 : Addr}
    (a20 : PySem.W.nsIn K mainGlobals "is_number" = some (some (.ref f20))) (l20 : K.lookup f20 = some ⟨oc20, od20, .func (PySem.W.fnOf "is_number" "is_number" (defArgs s_p_is_number) (defBody s_p_is_number) (defScope s_p_is_number) .none kV20 dc20 pm20 an20 cd20 ct20), sl20⟩) (c20 : PySem.W.codeIn K cd20 "is_number" = true) (k20 : PySem.W.keepIn K (.ref f20) = true)
    {od21 an21 : Option Addr} {sl21 : Array (Option Value)} {oc21 kV21 dc21 pm21 cd21 ct21 : Value} {f21 : Addr}
    (a21 : PySem.W.nsIn K mainGlobals "is_number_within" = some (some (.ref f21))) (l21 : K.lookup f21 = some ⟨oc21, od21, .func (PySem.W.fnOf "is_number_within" "is_number_within" (defArgs s_p_is_number_within) (defBody s_p_is_number_within) (defScope s_p_is_number_within) .none kV21 dc21 pm21 an21 cd21 ct21), sl21⟩) (c21 : PySem.W.codeIn K cd21 "is_number_within" = true) (k21 : PySem.W.keepIn K (.ref f21) = true)
    {od22 an22 : Option Addr} {sl22 : Array (Option Value)} {oc22 kV22 dc22 pm22 cd22 ct22 : Value} {f22 : Addr}
    (a22 : PySem.W.nsIn K mainGlobals "is_frac" = some (some (.ref f22))) (l22 : K.lookup f22 = some ⟨oc22, od22, .func (PySem.W.fnOf "is_frac" "is_frac" (defArgs s_p_is_frac) (defBody s_p_is_frac) (defScope s_p_is_frac) .none kV22 dc22 pm22 an22 cd22 ct22), sl22⟩) (c22 : PySem.W.codeIn K cd22 "is_frac" = true) (k22 : PySem.W.keepIn K (.ref f22) = true)
    {od23 an23 : Option Addr} {sl23 : Array (Option Value)} {oc23 kV23 dc23 pm23 cd23 ct23 : Value} {f23 : Addr}
    (a23 : PySem.W.nsIn K mainGlobals "frac_of" = some (some (.ref f23))) (l23 : K.lookup f23 = some ⟨oc23, od23, .func (PySem.W.fnOf "frac_of" "frac_of" (defArgs s_p_frac_of) (defBody s_p_frac_of) (defScope s_p_frac_of) .none kV23 dc23 pm23 an23 cd23 ct23), sl23⟩) (c23 : PySem.W.codeIn K cd23 "frac_of" = true) (k23 : PySem.W.keepIn K (.ref f23) = true)
    {od24 an24 : Option Addr} {sl24 : Array (Option Value)} {oc24 kV24 dc24 pm24 cd24 ct24 : Value} {f24 : Addr}
    (a24 : PySem.W.nsIn K mainGlobals "sum_of" = some (some (.ref f24))) (l24 : K.lookup f24 = some ⟨oc24, od24, .func (PySem.W.fnOf "sum_of" "sum_of" (defArgs s_p_sum_of) (defBody s_p_sum_of) (defScope s_p_sum_of) .none kV24 dc24 pm24 an24 cd24 ct24), sl24⟩) (c24 : PySem.W.codeIn K cd24 "sum_of" = true) (k24 : PySem.W.keepIn K (.ref f24) = true)
    {od25 an25 : Option Addr} {sl25 : Array (Option Value)} {oc25 kV25 dc25 pm25 cd25 ct25 : Value} {f25 : Addr}
    (a25 : PySem.W.nsIn K mainGlobals "difference" = some (some (.ref f25))) (l25 : K.lookup f25 = some ⟨oc25, od25, .func (PySem.W.fnOf "difference" "difference" (defArgs s_p_difference) (defBody s_p_difference) (defScope s_p_difference) .none kV25 dc25 pm25 an25 cd25 ct25), sl25⟩) (c25 : PySem.W.codeIn K cd25 "difference" = true) (k25 : PySem.W.keepIn K (.ref f25) = true)
    {od26 an26 : Option Addr} {sl26 : Array (Option Value)} {oc26 kV26 dc26 pm26 cd26 ct26 : Value} {f26 : Addr}
    (a26 : PySem.W.nsIn K mainGlobals "product" = some (some (.ref f26))) (l26 : K.lookup f26 = some ⟨oc26, od26, .func (PySem.W.fnOf "product" "product" (defArgs s_p_product) (defBody s_p_product) (defScope s_p_product) .none kV26 dc26 pm26 an26 cd26 ct26), sl26⟩) (c26 : PySem.W.codeIn K cd26 "product" = true) (k26 : PySem.W.keepIn K (.ref f26) = true)
    {od27 an27 : Option Addr} {sl27 : Array (Option Value)} {oc27 kV27 dc27 pm27 cd27 ct27 : Value} {f27 : Addr}
    (a27 : PySem.W.nsIn K mainGlobals "quotient" = some (some (.ref f27))) (l27 : K.lookup f27 = some ⟨oc27, od27, .func (PySem.W.fnOf "quotient" "quotient" (defArgs s_p_quotient) (defBody s_p_quotient) (defScope s_p_quotient) .none kV27 dc27 pm27 an27 cd27 ct27), sl27⟩) (c27 : PySem.W.codeIn K cd27 "quotient" = true) (k27 : PySem.W.keepIn K (.ref f27) = true)
    {od28 an28 : Option Addr} {sl28 : Array (Option Value)} {oc28 kV28 dc28 pm28 cd28 ct28 : Value} {f28 : Addr}
    (a28 : PySem.W.nsIn K mainGlobals "is_lesser" = some (some (.ref f28))) (l28 : K.lookup f28 = some ⟨oc28, od28, .func (PySem.W.fnOf "is_lesser" "is_lesser" (defArgs s_p_is_lesser) (defBody s_p_is_lesser) (defScope s_p_is_lesser) .none kV28 dc28 pm28 an28 cd28 ct28), sl28⟩) (c28 : PySem.W.codeIn K cd28 "is_lesser" = true) (k28 : PySem.W.keepIn K (.ref f28) = true)
    {od29 an29 : Option Addr} {sl29 : Array (Option Value)} {oc29 kV29 dc29 pm29 cd29 ct29 : Value} {f29 : Addr}
    (a29 : PySem.W.nsIn K mainGlobals "mixed" = some (some (.ref f29))) (l29 : K.lookup f29 = some ⟨oc29, od29, .func (PySem.W.fnOf "mixed" "mixed" (defArgs s_p_mixed) (defBody s_p_mixed) (defScope s_p_mixed) .none kV29 dc29 pm29 an29 cd29 ct29), sl29⟩) (c29 : PySem.W.codeIn K cd29 "mixed" = true) (k29 : PySem.W.keepIn K (.ref f29) = true)
    {od30 an30 : Option Addr} {sl30 : Array (Option Value)} {oc30 kV30 dc30 pm30 cd30 ct30 : Value} {f30 : Addr}
    (a30 : PySem.W.nsIn K mainGlobals "share_of" = some (some (.ref f30))) (l30 : K.lookup f30 = some ⟨oc30, od30, .func (PySem.W.fnOf "share_of" "share_of" (defArgs s_p_share_of) (defBody s_p_share_of) (defScope s_p_share_of) .none kV30 dc30 pm30 an30 cd30 ct30), sl30⟩) (c30 : PySem.W.codeIn K cd30 "share_of" = true) (k30 : PySem.W.keepIn K (.ref f30) = true)
    {od31 an31 : Option Addr} {sl31 : Array (Option Value)} {oc31 kV31 dc31 pm31 cd31 ct31 : Value} {f31 : Addr}
    (a31 : PySem.W.nsIn K mainGlobals "rest_of" = some (some (.ref f31))) (l31 : K.lookup f31 = some ⟨oc31, od31, .func (PySem.W.fnOf "rest_of" "rest_of" (defArgs s_p_rest_of) (defBody s_p_rest_of) (defScope s_p_rest_of) .none kV31 dc31 pm31 an31 cd31 ct31), sl31⟩) (c31 : PySem.W.codeIn K cd31 "rest_of" = true) (k31 : PySem.W.keepIn K (.ref f31) = true)
    {od32 an32 : Option Addr} {sl32 : Array (Option Value)} {oc32 kV32 dc32 pm32 cd32 ct32 : Value} {f32 : Addr}
    (a32 : PySem.W.nsIn K mainGlobals "volume_of" = some (some (.ref f32))) (l32 : K.lookup f32 = some ⟨oc32, od32, .func (PySem.W.fnOf "volume_of" "volume_of" (defArgs s_p_volume_of) (defBody s_p_volume_of) (defScope s_p_volume_of) .none kV32 dc32 pm32 an32 cd32 ct32), sl32⟩) (c32 : PySem.W.codeIn K cd32 "volume_of" = true) (k32 : PySem.W.keepIn K (.ref f32) = true)
    {od33 an33 : Option Addr} {sl33 : Array (Option Value)} {oc33 kV33 dc33 pm33 ct33 : Value} {f33 C33 P33 : Addr}
    (a33 : PySem.W.nsIn K mainGlobals "is_name" = some (some (.ref f33))) (l33 : K.lookup f33 = some ⟨oc33, od33, .func (PySem.W.fnOf "is_name" "is_name" (defArgs s_p_is_name) (defBody s_p_is_name) (defScope s_p_is_name) .none kV33 dc33 pm33 an33 (.ref C33) ct33), sl33⟩) (c33 : PySem.W.codeIn K (.ref C33) "is_name" = true) (k33 : PySem.W.keepIn K (.ref f33) = true)
    {te33 : Value} {td33 : Option Addr} {tv33 : Array Value} {ts33 : Array (Option Value)} (q33 : K.lookup C33 = some ⟨te33, td33, .fields tv33, ts33⟩) (p33 : tv33[11]? = some (.ref P33)) (n33 : K.lookup P33 = none)
    {od34 an34 : Option Addr} {sl34 : Array (Option Value)} {oc34 kV34 dc34 pm34 cd34 ct34 : Value} {f34 : Addr}
    (a34 : PySem.W.nsIn K mainGlobals "are_unlike" = some (some (.ref f34))) (l34 : K.lookup f34 = some ⟨oc34, od34, .func (PySem.W.fnOf "are_unlike" "are_unlike" (defArgs s_p_are_unlike) (defBody s_p_are_unlike) (defScope s_p_are_unlike) .none kV34 dc34 pm34 an34 cd34 ct34), sl34⟩) (c34 : PySem.W.codeIn K cd34 "are_unlike" = true) (k34 : PySem.W.keepIn K (.ref f34) = true)
    {od35 an35 : Option Addr} {sl35 : Array (Option Value)} {oc35 kV35 dc35 pm35 cd35 ct35 : Value} {f35 : Addr}
    (a35 : PySem.W.nsIn K mainGlobals "is_kettle" = some (some (.ref f35))) (l35 : K.lookup f35 = some ⟨oc35, od35, .func (PySem.W.fnOf "is_kettle" "is_kettle" (defArgs s_p_is_kettle) (defBody s_p_is_kettle) (defScope s_p_is_kettle) .none kV35 dc35 pm35 an35 cd35 ct35), sl35⟩) (c35 : PySem.W.codeIn K cd35 "is_kettle" = true) (k35 : PySem.W.keepIn K (.ref f35) = true)
    {od36 an36 : Option Addr} {sl36 : Array (Option Value)} {oc36 kV36 dc36 pm36 cd36 ct36 : Value} {f36 : Addr}
    (a36 : PySem.W.nsIn K mainGlobals "is_mould" = some (some (.ref f36))) (l36 : K.lookup f36 = some ⟨oc36, od36, .func (PySem.W.fnOf "is_mould" "is_mould" (defArgs s_p_is_mould) (defBody s_p_is_mould) (defScope s_p_is_mould) .none kV36 dc36 pm36 an36 cd36 ct36), sl36⟩) (c36 : PySem.W.codeIn K cd36 "is_mould" = true) (k36 : PySem.W.keepIn K (.ref f36) = true)
    {od37 an37 : Option Addr} {sl37 : Array (Option Value)} {oc37 kV37 dc37 pm37 ct37 : Value} {f37 C37 P37 : Addr}
    (a37 : PySem.W.nsIn K mainGlobals "_can_be_kettles" = some (some (.ref f37))) (l37 : K.lookup f37 = some ⟨oc37, od37, .func (PySem.W.fnOf "_can_be_kettles" "_can_be_kettles" (defArgs s_p__can_be_kettles) (defBody s_p__can_be_kettles) (defScope s_p__can_be_kettles) .none kV37 dc37 pm37 an37 (.ref C37) ct37), sl37⟩) (c37 : PySem.W.codeIn K (.ref C37) "_can_be_kettles" = true) (k37 : PySem.W.keepIn K (.ref f37) = true)
    {te37 : Value} {td37 : Option Addr} {tv37 : Array Value} {ts37 : Array (Option Value)} (q37 : K.lookup C37 = some ⟨te37, td37, .fields tv37, ts37⟩) (p37 : tv37[11]? = some (.ref P37)) (n37 : K.lookup P37 = none)
    {od38 an38 : Option Addr} {sl38 : Array (Option Value)} {oc38 kV38 dc38 pm38 ct38 : Value} {f38 C38 P38 : Addr}
    (a38 : PySem.W.nsIn K mainGlobals "_can_be_moulds" = some (some (.ref f38))) (l38 : K.lookup f38 = some ⟨oc38, od38, .func (PySem.W.fnOf "_can_be_moulds" "_can_be_moulds" (defArgs s_p__can_be_moulds) (defBody s_p__can_be_moulds) (defScope s_p__can_be_moulds) .none kV38 dc38 pm38 an38 (.ref C38) ct38), sl38⟩) (c38 : PySem.W.codeIn K (.ref C38) "_can_be_moulds" = true) (k38 : PySem.W.keepIn K (.ref f38) = true)
    {te38 : Value} {td38 : Option Addr} {tv38 : Array Value} {ts38 : Array (Option Value)} (q38 : K.lookup C38 = some ⟨te38, td38, .fields tv38, ts38⟩) (p38 : tv38[11]? = some (.ref P38)) (n38 : K.lookup P38 = none)
    {od39 an39 : Option Addr} {sl39 : Array (Option Value)} {oc39 kV39 dc39 pm39 cd39 ct39 : Value} {f39 : Addr}
    (a39 : PySem.W.nsIn K mainGlobals "_are_name_and_room" = some (some (.ref f39))) (l39 : K.lookup f39 = some ⟨oc39, od39, .func (PySem.W.fnOf "_are_name_and_room" "_are_name_and_room" (defArgs s_p__are_name_and_room) (defBody s_p__are_name_and_room) (defScope s_p__are_name_and_room) .none kV39 dc39 pm39 an39 cd39 ct39), sl39⟩) (c39 : PySem.W.codeIn K cd39 "_are_name_and_room" = true) (k39 : PySem.W.keepIn K (.ref f39) = true)
    {od40 an40 : Option Addr} {sl40 : Array (Option Value)} {oc40 kV40 dc40 pm40 cd40 ct40 : Value} {f40 : Addr}
    (a40 : PySem.W.nsIn K mainGlobals "_is_mark" = some (some (.ref f40))) (l40 : K.lookup f40 = some ⟨oc40, od40, .func (PySem.W.fnOf "_is_mark" "_is_mark" (defArgs s_p__is_mark) (defBody s_p__is_mark) (defScope s_p__is_mark) .none kV40 dc40 pm40 an40 cd40 ct40), sl40⟩) (c40 : PySem.W.codeIn K cd40 "_is_mark" = true) (k40 : PySem.W.keepIn K (.ref f40) = true)
    {od41 an41 : Option Addr} {sl41 : Array (Option Value)} {oc41 kV41 dc41 pm41 cd41 ct41 : Value} {f41 : Addr}
    (a41 : PySem.W.nsIn K mainGlobals "_is_drip" = some (some (.ref f41))) (l41 : K.lookup f41 = some ⟨oc41, od41, .func (PySem.W.fnOf "_is_drip" "_is_drip" (defArgs s_p__is_drip) (defBody s_p__is_drip) (defScope s_p__is_drip) .none kV41 dc41 pm41 an41 cd41 ct41), sl41⟩) (c41 : PySem.W.codeIn K cd41 "_is_drip" = true) (k41 : PySem.W.keepIn K (.ref f41) = true)
    {od42 an42 : Option Addr} {sl42 : Array (Option Value)} {oc42 kV42 dc42 pm42 cd42 ct42 : Value} {f42 : Addr}
    (a42 : PySem.W.nsIn K mainGlobals "need_share" = some (some (.ref f42))) (l42 : K.lookup f42 = some ⟨oc42, od42, .func (PySem.W.fnOf "need_share" "need_share" (defArgs s_p_need_share) (defBody s_p_need_share) (defScope s_p_need_share) .none kV42 dc42 pm42 an42 cd42 ct42), sl42⟩) (c42 : PySem.W.codeIn K cd42 "need_share" = true) (k42 : PySem.W.keepIn K (.ref f42) = true)
    {od43 an43 : Option Addr} {sl43 : Array (Option Value)} {oc43 kV43 dc43 pm43 cd43 ct43 : Value} {f43 : Addr}
    (a43 : PySem.W.nsIn K mainGlobals "need_some" = some (some (.ref f43))) (l43 : K.lookup f43 = some ⟨oc43, od43, .func (PySem.W.fnOf "need_some" "need_some" (defArgs s_p_need_some) (defBody s_p_need_some) (defScope s_p_need_some) .none kV43 dc43 pm43 an43 cd43 ct43), sl43⟩) (c43 : PySem.W.codeIn K cd43 "need_some" = true) (k43 : PySem.W.keepIn K (.ref f43) = true)
    {od44 an44 : Option Addr} {sl44 : Array (Option Value)} {oc44 kV44 dc44 pm44 cd44 ct44 : Value} {f44 : Addr}
    (a44 : PySem.W.nsIn K mainGlobals "poured_into" = some (some (.ref f44))) (l44 : K.lookup f44 = some ⟨oc44, od44, .func (PySem.W.fnOf "poured_into" "poured_into" (defArgs s_p_poured_into) (defBody s_p_poured_into) (defScope s_p_poured_into) .none kV44 dc44 pm44 an44 cd44 ct44), sl44⟩) (c44 : PySem.W.codeIn K cd44 "poured_into" = true) (k44 : PySem.W.keepIn K (.ref f44) = true)
    {od45 an45 : Option Addr} {sl45 : Array (Option Value)} {oc45 kV45 dc45 pm45 cd45 ct45 : Value} {f45 : Addr}
    (a45 : PySem.W.nsIn K mainGlobals "_law_cell_at" = some (some (.ref f45))) (l45 : K.lookup f45 = some ⟨oc45, od45, .func (PySem.W.fnOf "_law_cell_at" "_law_cell_at" (defArgs s_l_cell_at) (defBody s_l_cell_at) (defScope s_l_cell_at) .none kV45 dc45 pm45 an45 cd45 ct45), sl45⟩) (c45 : PySem.W.codeIn K cd45 "_law_cell_at" = true) (k45 : PySem.W.keepIn K (.ref f45) = true)
    {od46 an46 : Option Addr} {sl46 : Array (Option Value)} {oc46 kV46 dc46 pm46 cd46 ct46 : Value} {f46 : Addr}
    (a46 : PySem.W.nsIn K mainGlobals "_law_box" = some (some (.ref f46))) (l46 : K.lookup f46 = some ⟨oc46, od46, .func (PySem.W.fnOf "_law_box" "_law_box" (defArgs s_l_box) (defBody s_l_box) (defScope s_l_box) .none kV46 dc46 pm46 an46 cd46 ct46), sl46⟩) (c46 : PySem.W.codeIn K cd46 "_law_box" = true) (k46 : PySem.W.keepIn K (.ref f46) = true)
    {od47 an47 : Option Addr} {sl47 : Array (Option Value)} {oc47 kV47 dc47 pm47 cd47 ct47 : Value} {f47 : Addr}
    (a47 : PySem.W.nsIn K mainGlobals "_law_take" = some (some (.ref f47))) (l47 : K.lookup f47 = some ⟨oc47, od47, .func (PySem.W.fnOf "_law_take" "_law_take" (defArgs s_l_take) (defBody s_l_take) (defScope s_l_take) .none kV47 dc47 pm47 an47 cd47 ct47), sl47⟩) (c47 : PySem.W.codeIn K cd47 "_law_take" = true) (k47 : PySem.W.keepIn K (.ref f47) = true)
    {od48 an48 : Option Addr} {sl48 : Array (Option Value)} {oc48 kV48 dc48 pm48 cd48 ct48 : Value} {f48 : Addr}
    (a48 : PySem.W.nsIn K mainGlobals "_law_names" = some (some (.ref f48))) (l48 : K.lookup f48 = some ⟨oc48, od48, .func (PySem.W.fnOf "_law_names" "_law_names" (defArgs s_l_names) (defBody s_l_names) (defScope s_l_names) .none kV48 dc48 pm48 an48 cd48 ct48), sl48⟩) (c48 : PySem.W.codeIn K cd48 "_law_names" = true) (k48 : PySem.W.keepIn K (.ref f48) = true)
    {od49 an49 : Option Addr} {sl49 : Array (Option Value)} {oc49 kV49 dc49 pm49 cd49 ct49 : Value} {f49 : Addr}
    (a49 : PySem.W.nsIn K mainGlobals "_law_low" = some (some (.ref f49))) (l49 : K.lookup f49 = some ⟨oc49, od49, .func (PySem.W.fnOf "_law_low" "_law_low" (defArgs s_l_low) (defBody s_l_low) (defScope s_l_low) .none kV49 dc49 pm49 an49 cd49 ct49), sl49⟩) (c49 : PySem.W.codeIn K cd49 "_law_low" = true) (k49 : PySem.W.keepIn K (.ref f49) = true)
    {od50 an50 : Option Addr} {sl50 : Array (Option Value)} {oc50 kV50 dc50 pm50 cd50 ct50 : Value} {f50 : Addr}
    (a50 : PySem.W.nsIn K mainGlobals "_law_plus" = some (some (.ref f50))) (l50 : K.lookup f50 = some ⟨oc50, od50, .func (PySem.W.fnOf "_law_plus" "_law_plus" (defArgs s_l_plus) (defBody s_l_plus) (defScope s_l_plus) .none kV50 dc50 pm50 an50 cd50 ct50), sl50⟩) (c50 : PySem.W.codeIn K cd50 "_law_plus" = true) (k50 : PySem.W.keepIn K (.ref f50) = true)
    {od51 an51 : Option Addr} {sl51 : Array (Option Value)} {oc51 kV51 dc51 pm51 cd51 ct51 : Value} {f51 : Addr}
    (a51 : PySem.W.nsIn K mainGlobals "_law_by" = some (some (.ref f51))) (l51 : K.lookup f51 = some ⟨oc51, od51, .func (PySem.W.fnOf "_law_by" "_law_by" (defArgs s_l_by) (defBody s_l_by) (defScope s_l_by) .none kV51 dc51 pm51 an51 cd51 ct51), sl51⟩) (c51 : PySem.W.codeIn K cd51 "_law_by" = true) (k51 : PySem.W.keepIn K (.ref f51) = true)
    {od52 an52 : Option Addr} {sl52 : Array (Option Value)} {oc52 kV52 dc52 pm52 cd52 ct52 : Value} {f52 : Addr}
    (a52 : PySem.W.nsIn K mainGlobals "_law_share" = some (some (.ref f52))) (l52 : K.lookup f52 = some ⟨oc52, od52, .func (PySem.W.fnOf "_law_share" "_law_share" (defArgs s_l_share) (defBody s_l_share) (defScope s_l_share) .none kV52 dc52 pm52 an52 cd52 ct52), sl52⟩) (c52 : PySem.W.codeIn K cd52 "_law_share" = true) (k52 : PySem.W.keepIn K (.ref f52) = true)
    {od53 an53 : Option Addr} {sl53 : Array (Option Value)} {oc53 kV53 dc53 pm53 cd53 ct53 : Value} {f53 : Addr}
    (a53 : PySem.W.nsIn K mainGlobals "_law_same" = some (some (.ref f53))) (l53 : K.lookup f53 = some ⟨oc53, od53, .func (PySem.W.fnOf "_law_same" "_law_same" (defArgs s_l_same) (defBody s_l_same) (defScope s_l_same) .none kV53 dc53 pm53 an53 cd53 ct53), sl53⟩) (c53 : PySem.W.codeIn K cd53 "_law_same" = true) (k53 : PySem.W.keepIn K (.ref f53) = true)
    {od54 an54 : Option Addr} {sl54 : Array (Option Value)} {oc54 kV54 dc54 pm54 cd54 ct54 : Value} {f54 : Addr}
    (a54 : PySem.W.nsIn K mainGlobals "_law_row" = some (some (.ref f54))) (l54 : K.lookup f54 = some ⟨oc54, od54, .func (PySem.W.fnOf "_law_row" "_law_row" (defArgs s_l_row) (defBody s_l_row) (defScope s_l_row) .none kV54 dc54 pm54 an54 cd54 ct54), sl54⟩) (c54 : PySem.W.codeIn K cd54 "_law_row" = true) (k54 : PySem.W.keepIn K (.ref f54) = true)
    {od55 an55 : Option Addr} {sl55 : Array (Option Value)} {oc55 kV55 dc55 pm55 cd55 ct55 : Value} {f55 : Addr}
    (a55 : PySem.W.nsIn K mainGlobals "_law_new" = some (some (.ref f55))) (l55 : K.lookup f55 = some ⟨oc55, od55, .func (PySem.W.fnOf "_law_new" "_law_new" (defArgs s_l_new) (defBody s_l_new) (defScope s_l_new) .none kV55 dc55 pm55 an55 cd55 ct55), sl55⟩) (c55 : PySem.W.codeIn K cd55 "_law_new" = true) (k55 : PySem.W.keepIn K (.ref f55) = true)
    {od56 an56 : Option Addr} {sl56 : Array (Option Value)} {oc56 kV56 dc56 pm56 cd56 ct56 : Value} {f56 : Addr}
    (a56 : PySem.W.nsIn K mainGlobals "_law_copied" = some (some (.ref f56))) (l56 : K.lookup f56 = some ⟨oc56, od56, .func (PySem.W.fnOf "_law_copied" "_law_copied" (defArgs s_l_copied) (defBody s_l_copied) (defScope s_l_copied) .none kV56 dc56 pm56 an56 cd56 ct56), sl56⟩) (c56 : PySem.W.codeIn K cd56 "_law_copied" = true) (k56 : PySem.W.keepIn K (.ref f56) = true)
    {od57 an57 : Option Addr} {sl57 : Array (Option Value)} {oc57 kV57 dc57 pm57 cd57 ct57 : Value} {f57 : Addr}
    (a57 : PySem.W.nsIn K mainGlobals "_law_inside" = some (some (.ref f57))) (l57 : K.lookup f57 = some ⟨oc57, od57, .func (PySem.W.fnOf "_law_inside" "_law_inside" (defArgs s_l_inside) (defBody s_l_inside) (defScope s_l_inside) .none kV57 dc57 pm57 an57 cd57 ct57), sl57⟩) (c57 : PySem.W.codeIn K cd57 "_law_inside" = true) (k57 : PySem.W.keepIn K (.ref f57) = true)
    {od58 an58 : Option Addr} {sl58 : Array (Option Value)} {oc58 kV58 dc58 pm58 cd58 ct58 : Value} {f58 : Addr}
    (a58 : PySem.W.nsIn K mainGlobals "_law_bears" = some (some (.ref f58))) (l58 : K.lookup f58 = some ⟨oc58, od58, .func (PySem.W.fnOf "_law_bears" "_law_bears" (defArgs s_l_bears) (defBody s_l_bears) (defScope s_l_bears) .none kV58 dc58 pm58 an58 cd58 ct58), sl58⟩) (c58 : PySem.W.codeIn K cd58 "_law_bears" = true) (k58 : PySem.W.keepIn K (.ref f58) = true)
    {od59 an59 : Option Addr} {sl59 : Array (Option Value)} {oc59 kV59 dc59 pm59 cd59 ct59 : Value} {f59 : Addr}
    (a59 : PySem.W.nsIn K mainGlobals "_law_is_more" = some (some (.ref f59))) (l59 : K.lookup f59 = some ⟨oc59, od59, .func (PySem.W.fnOf "_law_is_more" "_law_is_more" (defArgs s_l_is_more) (defBody s_l_is_more) (defScope s_l_is_more) .none kV59 dc59 pm59 an59 cd59 ct59), sl59⟩) (c59 : PySem.W.codeIn K cd59 "_law_is_more" = true) (k59 : PySem.W.keepIn K (.ref f59) = true)
    {od60 an60 : Option Addr} {sl60 : Array (Option Value)} {oc60 kV60 dc60 pm60 cd60 ct60 : Value} {f60 : Addr}
    (a60 : PySem.W.nsIn K mainGlobals "_law_fill" = some (some (.ref f60))) (l60 : K.lookup f60 = some ⟨oc60, od60, .func (PySem.W.fnOf "_law_fill" "_law_fill" (defArgs s_l_fill) (defBody s_l_fill) (defScope s_l_fill) .none kV60 dc60 pm60 an60 cd60 ct60), sl60⟩) (c60 : PySem.W.codeIn K cd60 "_law_fill" = true) (k60 : PySem.W.keepIn K (.ref f60) = true)
    {od61 an61 : Option Addr} {sl61 : Array (Option Value)} {oc61 kV61 dc61 pm61 cd61 ct61 : Value} {f61 : Addr}
    (a61 : PySem.W.nsIn K mainGlobals "_law_drain" = some (some (.ref f61))) (l61 : K.lookup f61 = some ⟨oc61, od61, .func (PySem.W.fnOf "_law_drain" "_law_drain" (defArgs s_l_drain) (defBody s_l_drain) (defScope s_l_drain) .none kV61 dc61 pm61 an61 cd61 ct61), sl61⟩) (c61 : PySem.W.codeIn K cd61 "_law_drain" = true) (k61 : PySem.W.keepIn K (.ref f61) = true)
    {od62 an62 : Option Addr} {sl62 : Array (Option Value)} {oc62 kV62 dc62 pm62 cd62 ct62 : Value} {f62 : Addr}
    (a62 : PySem.W.nsIn K mainGlobals "_law_knock" = some (some (.ref f62))) (l62 : K.lookup f62 = some ⟨oc62, od62, .func (PySem.W.fnOf "_law_knock" "_law_knock" (defArgs s_l_knock) (defBody s_l_knock) (defScope s_l_knock) .none kV62 dc62 pm62 an62 cd62 ct62), sl62⟩) (c62 : PySem.W.codeIn K cd62 "_law_knock" = true) (k62 : PySem.W.keepIn K (.ref f62) = true)
    {od63 an63 : Option Addr} {sl63 : Array (Option Value)} {oc63 kV63 dc63 pm63 cd63 ct63 : Value} {f63 : Addr}
    (a63 : PySem.W.nsIn K mainGlobals "_law_draw" = some (some (.ref f63))) (l63 : K.lookup f63 = some ⟨oc63, od63, .func (PySem.W.fnOf "_law_draw" "_law_draw" (defArgs s_l_draw) (defBody s_l_draw) (defScope s_l_draw) .none kV63 dc63 pm63 an63 cd63 ct63), sl63⟩) (c63 : PySem.W.codeIn K cd63 "_law_draw" = true) (k63 : PySem.W.keepIn K (.ref f63) = true)
    {od64 an64 : Option Addr} {sl64 : Array (Option Value)} {oc64 kV64 dc64 pm64 cd64 ct64 : Value} {f64 : Addr}
    (a64 : PySem.W.nsIn K mainGlobals "_law_done" = some (some (.ref f64))) (l64 : K.lookup f64 = some ⟨oc64, od64, .func (PySem.W.fnOf "_law_done" "_law_done" (defArgs s_l_done) (defBody s_l_done) (defScope s_l_done) .none kV64 dc64 pm64 an64 cd64 ct64), sl64⟩) (c64 : PySem.W.codeIn K cd64 "_law_done" = true) (k64 : PySem.W.keepIn K (.ref f64) = true)
    {od65 an65 : Option Addr} {sl65 : Array (Option Value)} {oc65 kV65 dc65 pm65 cd65 ct65 : Value} {f65 : Addr}
    (a65 : PySem.W.nsIn K mainGlobals "_law_told" = some (some (.ref f65))) (l65 : K.lookup f65 = some ⟨oc65, od65, .func (PySem.W.fnOf "_law_told" "_law_told" (defArgs s_l_told) (defBody s_l_told) (defScope s_l_told) .none kV65 dc65 pm65 an65 cd65 ct65), sl65⟩) (c65 : PySem.W.codeIn K cd65 "_law_told" = true) (k65 : PySem.W.keepIn K (.ref f65) = true)
    {od66 an66 : Option Addr} {sl66 : Array (Option Value)} {oc66 kV66 dc66 pm66 cd66 ct66 : Value} {f66 : Addr}
    (a66 : PySem.W.nsIn K mainGlobals "_law_stands" = some (some (.ref f66))) (l66 : K.lookup f66 = some ⟨oc66, od66, .func (PySem.W.fnOf "_law_stands" "_law_stands" (defArgs s_l_stands) (defBody s_l_stands) (defScope s_l_stands) .none kV66 dc66 pm66 an66 cd66 ct66), sl66⟩) (c66 : PySem.W.codeIn K cd66 "_law_stands" = true) (k66 : PySem.W.keepIn K (.ref f66) = true)
    {od67 an67 : Option Addr} {sl67 : Array (Option Value)} {oc67 kV67 dc67 pm67 cd67 ct67 : Value} {f67 : Addr}
    (a67 : PySem.W.nsIn K mainGlobals "_law_juice" = some (some (.ref f67))) (l67 : K.lookup f67 = some ⟨oc67, od67, .func (PySem.W.fnOf "_law_juice" "_law_juice" (defArgs s_l_juice) (defBody s_l_juice) (defScope s_l_juice) .none kV67 dc67 pm67 an67 cd67 ct67), sl67⟩) (c67 : PySem.W.codeIn K cd67 "_law_juice" = true) (k67 : PySem.W.keepIn K (.ref f67) = true)
    {od68 an68 : Option Addr} {sl68 : Array (Option Value)} {oc68 kV68 dc68 pm68 cd68 ct68 : Value} {f68 : Addr}
    (a68 : PySem.W.nsIn K mainGlobals "_law_pours" = some (some (.ref f68))) (l68 : K.lookup f68 = some ⟨oc68, od68, .func (PySem.W.fnOf "_law_pours" "_law_pours" (defArgs s_l_pours) (defBody s_l_pours) (defScope s_l_pours) .none kV68 dc68 pm68 an68 cd68 ct68), sl68⟩) (c68 : PySem.W.codeIn K cd68 "_law_pours" = true) (k68 : PySem.W.keepIn K (.ref f68) = true)
    {od69 an69 : Option Addr} {sl69 : Array (Option Value)} {oc69 kV69 dc69 pm69 cd69 ct69 : Value} {f69 : Addr}
    (a69 : PySem.W.nsIn K mainGlobals "_law_deed" = some (some (.ref f69))) (l69 : K.lookup f69 = some ⟨oc69, od69, .func (PySem.W.fnOf "_law_deed" "_law_deed" (defArgs s_l_deed) (defBody s_l_deed) (defScope s_l_deed) .none kV69 dc69 pm69 an69 cd69 ct69), sl69⟩) (c69 : PySem.W.codeIn K cd69 "_law_deed" = true) (k69 : PySem.W.keepIn K (.ref f69) = true)
    {od70 an70 : Option Addr} {sl70 : Array (Option Value)} {oc70 kV70 dc70 pm70 cd70 ct70 : Value} {f70 : Addr}
    (a70 : PySem.W.nsIn K mainGlobals "law" = some (some (.ref f70))) (l70 : K.lookup f70 = some ⟨oc70, od70, .func (PySem.W.fnOf "law" "law" (defArgs s_p_law) (defBody s_p_law) (defScope s_p_law) .none kV70 dc70 pm70 an70 cd70 ct70), sl70⟩) (c70 : PySem.W.codeIn K cd70 "law" = true) (k70 : PySem.W.keepIn K (.ref f70) = true)
    (z_abs : PySem.W.nsIn K mainGlobals "abs" = some none)
    (z_all : PySem.W.nsIn K mainGlobals "all" = some none)
    (z_bool : PySem.W.nsIn K mainGlobals "bool" = some none)
    (z_dict : PySem.W.nsIn K mainGlobals "dict" = some none)
    (z_divmod : PySem.W.nsIn K mainGlobals "divmod" = some none)
    (z_int : PySem.W.nsIn K mainGlobals "int" = some none)
    (z_isinstance : PySem.W.nsIn K mainGlobals "isinstance" = some none)
    (z_len : PySem.W.nsIn K mainGlobals "len" = some none)
    (z_list : PySem.W.nsIn K mainGlobals "list" = some none)
    (z_max : PySem.W.nsIn K mainGlobals "max" = some none)
    (z_min : PySem.W.nsIn K mainGlobals "min" = some none)
    (z_range : PySem.W.nsIn K mainGlobals "range" = some none)
    (z_set : PySem.W.nsIn K mainGlobals "set" = some none)
    (z_sorted : PySem.W.nsIn K mainGlobals "sorted" = some none)
    (z_str : PySem.W.nsIn K mainGlobals "str" = some none)
    (z_tuple : PySem.W.nsIn K mainGlobals "tuple" = some none)
    (z_zip : PySem.W.nsIn K mainGlobals "zip" = some none)
    (z_gcd : PySem.W.nsIn K mainGlobals "gcd" = some (some (.builtin "math.gcd")))
    {t_MOST_LETTERS : Tok} (z_MOST_LETTERS : PySem.W.nsIn K mainGlobals "MOST_LETTERS" = some (some (.int 8 t_MOST_LETTERS)))
    {t_MOST_KETTLES : Tok} (z_MOST_KETTLES : PySem.W.nsIn K mainGlobals "MOST_KETTLES" = some (some (.int 8 t_MOST_KETTLES)))
    {t_MOST_MOULDS : Tok} (z_MOST_MOULDS : PySem.W.nsIn K mainGlobals "MOST_MOULDS" = some (some (.int 40 t_MOST_MOULDS)))
    {t_MOST_ROOM : Tok} (z_MOST_ROOM : PySem.W.nsIn K mainGlobals "MOST_ROOM" = some (some (.int 1000000 t_MOST_ROOM)))
    {t_MOST_FIRE : Tok} (z_MOST_FIRE : PySem.W.nsIn K mainGlobals "MOST_FIRE" = some (some (.int 10000 t_MOST_FIRE)))
    {t_MOST_MARK_BOTTOM : Tok} (z_MOST_MARK_BOTTOM : PySem.W.nsIn K mainGlobals "MOST_MARK_BOTTOM" = some (some (.int 60 t_MOST_MARK_BOTTOM)))
    {t_MOST_DRIP_BOTTOM : Tok} (z_MOST_DRIP_BOTTOM : PySem.W.nsIn K mainGlobals "MOST_DRIP_BOTTOM" = some (some (.int 12 t_MOST_DRIP_BOTTOM)))
    {t_MOST_BOTTOM : Tok} (z_MOST_BOTTOM : PySem.W.nsIn K mainGlobals "MOST_BOTTOM" = some (some (.int 12 t_MOST_BOTTOM)))
    {t_VAT : Tok} (z_VAT : PySem.W.nsIn K mainGlobals "VAT" = some (some (.str "vat" t_VAT)))
    {C_BoilError : Addr} (y_BoilError : PySem.W.nsIn K mainGlobals "BoilError" = some (some (.ref C_BoilError)))
    {C_NoMould : Addr} (y_NoMould : PySem.W.nsIn K mainGlobals "NoMould" = some (some (.ref C_NoMould)))
    {C_NoRoom : Addr} (y_NoRoom : PySem.W.nsIn K mainGlobals "NoRoom" = some (some (.ref C_NoRoom)))
    {C_NoShare : Addr} (y_NoShare : PySem.W.nsIn K mainGlobals "NoShare" = some (some (.ref C_NoShare)))
    {C_Empty : Addr} (y_Empty : PySem.W.nsIn K mainGlobals "Empty" = some (some (.ref C_Empty)))
    {C_Cured : Addr} (y_Cured : PySem.W.nsIn K mainGlobals "Cured" = some (some (.ref C_Cured)))
    {C_NotCured : Addr} (y_NotCured : PySem.W.nsIn K mainGlobals "NotCured" = some (some (.ref C_NotCured)))
    {nm_NoMould q_NoMould : Str} {N_NoMould fI_NoMould : Addr} {bs_NoMould : List Value} {sn_NoMould : List Str} {sub_NoMould : List Value} {ab_NoMould : Bool} {col_NoMould : Option Bool} {dd_NoMould odI_NoMould anI_NoMould : Option Addr} {t2_NoMould : Tok} {m0_NoMould m1_NoMould m3_NoMould m5_NoMould : Option Value} {ocI_NoMould kVI_NoMould dcI_NoMould pmI_NoMould cdI_NoMould ctI_NoMould : Value} {slI_NoMould : Array (Option Value)}
    (xL_NoMould : K.lookup C_NoMould = some (excClassObj nm_NoMould q_NoMould C_NoMould N_NoMould bs_NoMould [.ref C_BoilError, .type "ValueError", .type "Exception", .type "BaseException", .type "object"] true sn_NoMould sub_NoMould ab_NoMould col_NoMould dd_NoMould m0_NoMould m1_NoMould (some (.str "NoMould" t2_NoMould)) m3_NoMould m5_NoMould "ValueError.__new__"))
    (xsa_NoMould : PySem.W.findIn K (.ref C_NoMould) "__setattr__" = some (some (.builtin "object.__setattr__")))
    (xex_NoMould : PySem.W.subIn K (.ref C_NoMould) (.type "BaseException") = some true)
    (xty_NoMould : PySem.W.typeIn K (.ref C_NoMould) = some (.type "type"))
    (xk_NoMould : PySem.W.keepIn K (.ref C_NoMould) = true)
    (xi_NoMould : PySem.W.findIn K (.ref C_NoMould) "__init__" = some (some (.ref fI_NoMould)))
    (xti_NoMould : PySem.W.typeIn K (.ref fI_NoMould) = some (.type "function"))
    (xl_NoMould : K.lookup fI_NoMould = some ⟨ocI_NoMould, odI_NoMould, .func (PySem.W.fnOf "__init__" "NoMould.__init__" (defArgs s_init_NoMould) (defBody s_init_NoMould) (defScope s_init_NoMould) .none kVI_NoMould dcI_NoMould pmI_NoMould anI_NoMould cdI_NoMould ctI_NoMould), slI_NoMould⟩)
    (xc_NoMould : PySem.W.codeIn K cdI_NoMould "NoMould.__init__" = true)
    (xki_NoMould : PySem.W.keepIn K (.ref fI_NoMould) = true)
    (ecl_NoMould : PySem.W.isClsIn K C_NoMould = true)
    (ega_NoMould : PySem.W.findIn K (.ref C_NoMould) "__getattribute__" = some (some (.builtin "BaseException.__getattribute__")))
    (egg_NoMould : PySem.W.findIn K (.ref C_NoMould) "__getattr__" = some none)
    (ecs_NoMould : PySem.W.findIn K (.ref C_NoMould) "__class__" = some (some (.builtin "object.__class__")))
    (ege_NoMould : PySem.W.specialIn K (.builtin "object.__class__") "__get__" = some (some (.builtin "getset_descriptor.__get__")))
    (etk_NoMould : PySem.W.takesIn K (.builtin "object.__class__") = some true)
    (eob_NoMould : PySem.W.mroIn K C_NoMould (.type "object") = some true)
    (edi_NoMould : PySem.W.hasDictIn K C_NoMould = true)
    (efw_NoMould : PySem.W.findIn K (.ref C_NoMould) "word" = some none)
    (ern_NoMould : PySem.W.readsIn K C_NoMould (.type "type") = true)
    (efc_NoMould : PySem.W.findCls K (.ref C_NoMould) (.type "type") "__name__" = some (.get (.builtin "getset_descriptor.__get__") (.builtin "type.__name__") (.ref C_NoMould) (.type "type")))
    (efl_NoMould : PySem.W.findIn K (.ref C_NoMould) "what" = some none)
    {nm_NoRoom q_NoRoom : Str} {N_NoRoom fI_NoRoom : Addr} {bs_NoRoom : List Value} {sn_NoRoom : List Str} {sub_NoRoom : List Value} {ab_NoRoom : Bool} {col_NoRoom : Option Bool} {dd_NoRoom odI_NoRoom anI_NoRoom : Option Addr} {t2_NoRoom : Tok} {m0_NoRoom m1_NoRoom m3_NoRoom m5_NoRoom : Option Value} {ocI_NoRoom kVI_NoRoom dcI_NoRoom pmI_NoRoom cdI_NoRoom ctI_NoRoom : Value} {slI_NoRoom : Array (Option Value)}
    (xL_NoRoom : K.lookup C_NoRoom = some (excClassObj nm_NoRoom q_NoRoom C_NoRoom N_NoRoom bs_NoRoom [.ref C_BoilError, .type "ValueError", .type "Exception", .type "BaseException", .type "object"] true sn_NoRoom sub_NoRoom ab_NoRoom col_NoRoom dd_NoRoom m0_NoRoom m1_NoRoom (some (.str "NoRoom" t2_NoRoom)) m3_NoRoom m5_NoRoom "ValueError.__new__"))
    (xsa_NoRoom : PySem.W.findIn K (.ref C_NoRoom) "__setattr__" = some (some (.builtin "object.__setattr__")))
    (xex_NoRoom : PySem.W.subIn K (.ref C_NoRoom) (.type "BaseException") = some true)
    (xty_NoRoom : PySem.W.typeIn K (.ref C_NoRoom) = some (.type "type"))
    (xk_NoRoom : PySem.W.keepIn K (.ref C_NoRoom) = true)
    (xi_NoRoom : PySem.W.findIn K (.ref C_NoRoom) "__init__" = some (some (.ref fI_NoRoom)))
    (xti_NoRoom : PySem.W.typeIn K (.ref fI_NoRoom) = some (.type "function"))
    (xl_NoRoom : K.lookup fI_NoRoom = some ⟨ocI_NoRoom, odI_NoRoom, .func (PySem.W.fnOf "__init__" "NoRoom.__init__" (defArgs s_init_NoRoom) (defBody s_init_NoRoom) (defScope s_init_NoRoom) .none kVI_NoRoom dcI_NoRoom pmI_NoRoom anI_NoRoom cdI_NoRoom ctI_NoRoom), slI_NoRoom⟩)
    (xc_NoRoom : PySem.W.codeIn K cdI_NoRoom "NoRoom.__init__" = true)
    (xki_NoRoom : PySem.W.keepIn K (.ref fI_NoRoom) = true)
    (ecl_NoRoom : PySem.W.isClsIn K C_NoRoom = true)
    (ega_NoRoom : PySem.W.findIn K (.ref C_NoRoom) "__getattribute__" = some (some (.builtin "BaseException.__getattribute__")))
    (egg_NoRoom : PySem.W.findIn K (.ref C_NoRoom) "__getattr__" = some none)
    (ecs_NoRoom : PySem.W.findIn K (.ref C_NoRoom) "__class__" = some (some (.builtin "object.__class__")))
    (ege_NoRoom : PySem.W.specialIn K (.builtin "object.__class__") "__get__" = some (some (.builtin "getset_descriptor.__get__")))
    (etk_NoRoom : PySem.W.takesIn K (.builtin "object.__class__") = some true)
    (eob_NoRoom : PySem.W.mroIn K C_NoRoom (.type "object") = some true)
    (edi_NoRoom : PySem.W.hasDictIn K C_NoRoom = true)
    (efw_NoRoom : PySem.W.findIn K (.ref C_NoRoom) "word" = some none)
    (ern_NoRoom : PySem.W.readsIn K C_NoRoom (.type "type") = true)
    (efc_NoRoom : PySem.W.findCls K (.ref C_NoRoom) (.type "type") "__name__" = some (.get (.builtin "getset_descriptor.__get__") (.builtin "type.__name__") (.ref C_NoRoom) (.type "type")))
    (efl_NoRoom : PySem.W.findIn K (.ref C_NoRoom) "what" = some none)
    {nm_NoShare q_NoShare : Str} {N_NoShare fI_NoShare : Addr} {bs_NoShare : List Value} {sn_NoShare : List Str} {sub_NoShare : List Value} {ab_NoShare : Bool} {col_NoShare : Option Bool} {dd_NoShare odI_NoShare anI_NoShare : Option Addr} {t2_NoShare : Tok} {m0_NoShare m1_NoShare m3_NoShare m5_NoShare : Option Value} {ocI_NoShare kVI_NoShare dcI_NoShare pmI_NoShare cdI_NoShare ctI_NoShare : Value} {slI_NoShare : Array (Option Value)}
    (xL_NoShare : K.lookup C_NoShare = some (excClassObj nm_NoShare q_NoShare C_NoShare N_NoShare bs_NoShare [.ref C_BoilError, .type "ValueError", .type "Exception", .type "BaseException", .type "object"] true sn_NoShare sub_NoShare ab_NoShare col_NoShare dd_NoShare m0_NoShare m1_NoShare (some (.str "NoShare" t2_NoShare)) m3_NoShare m5_NoShare "ValueError.__new__"))
    (xsa_NoShare : PySem.W.findIn K (.ref C_NoShare) "__setattr__" = some (some (.builtin "object.__setattr__")))
    (xex_NoShare : PySem.W.subIn K (.ref C_NoShare) (.type "BaseException") = some true)
    (xty_NoShare : PySem.W.typeIn K (.ref C_NoShare) = some (.type "type"))
    (xk_NoShare : PySem.W.keepIn K (.ref C_NoShare) = true)
    (xi_NoShare : PySem.W.findIn K (.ref C_NoShare) "__init__" = some (some (.ref fI_NoShare)))
    (xti_NoShare : PySem.W.typeIn K (.ref fI_NoShare) = some (.type "function"))
    (xl_NoShare : K.lookup fI_NoShare = some ⟨ocI_NoShare, odI_NoShare, .func (PySem.W.fnOf "__init__" "NoShare.__init__" (defArgs s_init_NoShare) (defBody s_init_NoShare) (defScope s_init_NoShare) .none kVI_NoShare dcI_NoShare pmI_NoShare anI_NoShare cdI_NoShare ctI_NoShare), slI_NoShare⟩)
    (xc_NoShare : PySem.W.codeIn K cdI_NoShare "NoShare.__init__" = true)
    (xki_NoShare : PySem.W.keepIn K (.ref fI_NoShare) = true)
    (ecl_NoShare : PySem.W.isClsIn K C_NoShare = true)
    (ega_NoShare : PySem.W.findIn K (.ref C_NoShare) "__getattribute__" = some (some (.builtin "BaseException.__getattribute__")))
    (egg_NoShare : PySem.W.findIn K (.ref C_NoShare) "__getattr__" = some none)
    (ecs_NoShare : PySem.W.findIn K (.ref C_NoShare) "__class__" = some (some (.builtin "object.__class__")))
    (ege_NoShare : PySem.W.specialIn K (.builtin "object.__class__") "__get__" = some (some (.builtin "getset_descriptor.__get__")))
    (etk_NoShare : PySem.W.takesIn K (.builtin "object.__class__") = some true)
    (eob_NoShare : PySem.W.mroIn K C_NoShare (.type "object") = some true)
    (edi_NoShare : PySem.W.hasDictIn K C_NoShare = true)
    (efw_NoShare : PySem.W.findIn K (.ref C_NoShare) "word" = some none)
    (ern_NoShare : PySem.W.readsIn K C_NoShare (.type "type") = true)
    (efc_NoShare : PySem.W.findCls K (.ref C_NoShare) (.type "type") "__name__" = some (.get (.builtin "getset_descriptor.__get__") (.builtin "type.__name__") (.ref C_NoShare) (.type "type")))
    (efl_NoShare : PySem.W.findIn K (.ref C_NoShare) "what" = some none)
    {nm_Empty q_Empty : Str} {N_Empty fI_Empty : Addr} {bs_Empty : List Value} {sn_Empty : List Str} {sub_Empty : List Value} {ab_Empty : Bool} {col_Empty : Option Bool} {dd_Empty odI_Empty anI_Empty : Option Addr} {t2_Empty : Tok} {m0_Empty m1_Empty m3_Empty m5_Empty : Option Value} {ocI_Empty kVI_Empty dcI_Empty pmI_Empty cdI_Empty ctI_Empty : Value} {slI_Empty : Array (Option Value)}
    (xL_Empty : K.lookup C_Empty = some (excClassObj nm_Empty q_Empty C_Empty N_Empty bs_Empty [.ref C_BoilError, .type "ValueError", .type "Exception", .type "BaseException", .type "object"] true sn_Empty sub_Empty ab_Empty col_Empty dd_Empty m0_Empty m1_Empty (some (.str "Empty" t2_Empty)) m3_Empty m5_Empty "ValueError.__new__"))
    (xsa_Empty : PySem.W.findIn K (.ref C_Empty) "__setattr__" = some (some (.builtin "object.__setattr__")))
    (xex_Empty : PySem.W.subIn K (.ref C_Empty) (.type "BaseException") = some true)
    (xty_Empty : PySem.W.typeIn K (.ref C_Empty) = some (.type "type"))
    (xk_Empty : PySem.W.keepIn K (.ref C_Empty) = true)
    (xi_Empty : PySem.W.findIn K (.ref C_Empty) "__init__" = some (some (.ref fI_Empty)))
    (xti_Empty : PySem.W.typeIn K (.ref fI_Empty) = some (.type "function"))
    (xl_Empty : K.lookup fI_Empty = some ⟨ocI_Empty, odI_Empty, .func (PySem.W.fnOf "__init__" "Empty.__init__" (defArgs s_init_Empty) (defBody s_init_Empty) (defScope s_init_Empty) .none kVI_Empty dcI_Empty pmI_Empty anI_Empty cdI_Empty ctI_Empty), slI_Empty⟩)
    (xc_Empty : PySem.W.codeIn K cdI_Empty "Empty.__init__" = true)
    (xki_Empty : PySem.W.keepIn K (.ref fI_Empty) = true)
    (ecl_Empty : PySem.W.isClsIn K C_Empty = true)
    (ega_Empty : PySem.W.findIn K (.ref C_Empty) "__getattribute__" = some (some (.builtin "BaseException.__getattribute__")))
    (egg_Empty : PySem.W.findIn K (.ref C_Empty) "__getattr__" = some none)
    (ecs_Empty : PySem.W.findIn K (.ref C_Empty) "__class__" = some (some (.builtin "object.__class__")))
    (ege_Empty : PySem.W.specialIn K (.builtin "object.__class__") "__get__" = some (some (.builtin "getset_descriptor.__get__")))
    (etk_Empty : PySem.W.takesIn K (.builtin "object.__class__") = some true)
    (eob_Empty : PySem.W.mroIn K C_Empty (.type "object") = some true)
    (edi_Empty : PySem.W.hasDictIn K C_Empty = true)
    (efw_Empty : PySem.W.findIn K (.ref C_Empty) "word" = some none)
    (ern_Empty : PySem.W.readsIn K C_Empty (.type "type") = true)
    (efc_Empty : PySem.W.findCls K (.ref C_Empty) (.type "type") "__name__" = some (.get (.builtin "getset_descriptor.__get__") (.builtin "type.__name__") (.ref C_Empty) (.type "type")))
    (efl_Empty : PySem.W.findIn K (.ref C_Empty) "what" = some none)
    {nm_Cured q_Cured : Str} {N_Cured fI_Cured : Addr} {bs_Cured : List Value} {sn_Cured : List Str} {sub_Cured : List Value} {ab_Cured : Bool} {col_Cured : Option Bool} {dd_Cured odI_Cured anI_Cured : Option Addr} {t2_Cured : Tok} {m0_Cured m1_Cured m3_Cured m5_Cured : Option Value} {ocI_Cured kVI_Cured dcI_Cured pmI_Cured cdI_Cured ctI_Cured : Value} {slI_Cured : Array (Option Value)}
    (xL_Cured : K.lookup C_Cured = some (excClassObj nm_Cured q_Cured C_Cured N_Cured bs_Cured [.ref C_BoilError, .type "ValueError", .type "Exception", .type "BaseException", .type "object"] true sn_Cured sub_Cured ab_Cured col_Cured dd_Cured m0_Cured m1_Cured (some (.str "Cured" t2_Cured)) m3_Cured m5_Cured "ValueError.__new__"))
    (xsa_Cured : PySem.W.findIn K (.ref C_Cured) "__setattr__" = some (some (.builtin "object.__setattr__")))
    (xex_Cured : PySem.W.subIn K (.ref C_Cured) (.type "BaseException") = some true)
    (xty_Cured : PySem.W.typeIn K (.ref C_Cured) = some (.type "type"))
    (xk_Cured : PySem.W.keepIn K (.ref C_Cured) = true)
    (xi_Cured : PySem.W.findIn K (.ref C_Cured) "__init__" = some (some (.ref fI_Cured)))
    (xti_Cured : PySem.W.typeIn K (.ref fI_Cured) = some (.type "function"))
    (xl_Cured : K.lookup fI_Cured = some ⟨ocI_Cured, odI_Cured, .func (PySem.W.fnOf "__init__" "Cured.__init__" (defArgs s_init_Cured) (defBody s_init_Cured) (defScope s_init_Cured) .none kVI_Cured dcI_Cured pmI_Cured anI_Cured cdI_Cured ctI_Cured), slI_Cured⟩)
    (xc_Cured : PySem.W.codeIn K cdI_Cured "Cured.__init__" = true)
    (xki_Cured : PySem.W.keepIn K (.ref fI_Cured) = true)
    (ecl_Cured : PySem.W.isClsIn K C_Cured = true)
    (ega_Cured : PySem.W.findIn K (.ref C_Cured) "__getattribute__" = some (some (.builtin "BaseException.__getattribute__")))
    (egg_Cured : PySem.W.findIn K (.ref C_Cured) "__getattr__" = some none)
    (ecs_Cured : PySem.W.findIn K (.ref C_Cured) "__class__" = some (some (.builtin "object.__class__")))
    (ege_Cured : PySem.W.specialIn K (.builtin "object.__class__") "__get__" = some (some (.builtin "getset_descriptor.__get__")))
    (etk_Cured : PySem.W.takesIn K (.builtin "object.__class__") = some true)
    (eob_Cured : PySem.W.mroIn K C_Cured (.type "object") = some true)
    (edi_Cured : PySem.W.hasDictIn K C_Cured = true)
    (efw_Cured : PySem.W.findIn K (.ref C_Cured) "word" = some none)
    (ern_Cured : PySem.W.readsIn K C_Cured (.type "type") = true)
    (efc_Cured : PySem.W.findCls K (.ref C_Cured) (.type "type") "__name__" = some (.get (.builtin "getset_descriptor.__get__") (.builtin "type.__name__") (.ref C_Cured) (.type "type")))
    (efl_Cured : PySem.W.findIn K (.ref C_Cured) "what" = some none)
    {nm_NotCured q_NotCured : Str} {N_NotCured fI_NotCured : Addr} {bs_NotCured : List Value} {sn_NotCured : List Str} {sub_NotCured : List Value} {ab_NotCured : Bool} {col_NotCured : Option Bool} {dd_NotCured odI_NotCured anI_NotCured : Option Addr} {t2_NotCured : Tok} {m0_NotCured m1_NotCured m3_NotCured m5_NotCured : Option Value} {ocI_NotCured kVI_NotCured dcI_NotCured pmI_NotCured cdI_NotCured ctI_NotCured : Value} {slI_NotCured : Array (Option Value)}
    (xL_NotCured : K.lookup C_NotCured = some (excClassObj nm_NotCured q_NotCured C_NotCured N_NotCured bs_NotCured [.ref C_BoilError, .type "ValueError", .type "Exception", .type "BaseException", .type "object"] true sn_NotCured sub_NotCured ab_NotCured col_NotCured dd_NotCured m0_NotCured m1_NotCured (some (.str "NotCured" t2_NotCured)) m3_NotCured m5_NotCured "ValueError.__new__"))
    (xsa_NotCured : PySem.W.findIn K (.ref C_NotCured) "__setattr__" = some (some (.builtin "object.__setattr__")))
    (xex_NotCured : PySem.W.subIn K (.ref C_NotCured) (.type "BaseException") = some true)
    (xty_NotCured : PySem.W.typeIn K (.ref C_NotCured) = some (.type "type"))
    (xk_NotCured : PySem.W.keepIn K (.ref C_NotCured) = true)
    (xi_NotCured : PySem.W.findIn K (.ref C_NotCured) "__init__" = some (some (.ref fI_NotCured)))
    (xti_NotCured : PySem.W.typeIn K (.ref fI_NotCured) = some (.type "function"))
    (xl_NotCured : K.lookup fI_NotCured = some ⟨ocI_NotCured, odI_NotCured, .func (PySem.W.fnOf "__init__" "NotCured.__init__" (defArgs s_init_NotCured) (defBody s_init_NotCured) (defScope s_init_NotCured) .none kVI_NotCured dcI_NotCured pmI_NotCured anI_NotCured cdI_NotCured ctI_NotCured), slI_NotCured⟩)
    (xc_NotCured : PySem.W.codeIn K cdI_NotCured "NotCured.__init__" = true)
    (xki_NotCured : PySem.W.keepIn K (.ref fI_NotCured) = true)
    (ecl_NotCured : PySem.W.isClsIn K C_NotCured = true)
    (ega_NotCured : PySem.W.findIn K (.ref C_NotCured) "__getattribute__" = some (some (.builtin "BaseException.__getattribute__")))
    (egg_NotCured : PySem.W.findIn K (.ref C_NotCured) "__getattr__" = some none)
    (ecs_NotCured : PySem.W.findIn K (.ref C_NotCured) "__class__" = some (some (.builtin "object.__class__")))
    (ege_NotCured : PySem.W.specialIn K (.builtin "object.__class__") "__get__" = some (some (.builtin "getset_descriptor.__get__")))
    (etk_NotCured : PySem.W.takesIn K (.builtin "object.__class__") = some true)
    (eob_NotCured : PySem.W.mroIn K C_NotCured (.type "object") = some true)
    (edi_NotCured : PySem.W.hasDictIn K C_NotCured = true)
    (efw_NotCured : PySem.W.findIn K (.ref C_NotCured) "word" = some none)
    (ern_NotCured : PySem.W.readsIn K C_NotCured (.type "type") = true)
    (efc_NotCured : PySem.W.findCls K (.ref C_NotCured) (.type "type") "__name__" = some (.get (.builtin "getset_descriptor.__get__") (.builtin "type.__name__") (.ref C_NotCured) (.type "type")))
    (efl_NotCured : PySem.W.findIn K (.ref C_NotCured) "what" = some none)
    (ic_BoilError : PySem.W.isClsIn K C_BoilError = true)
    (it_BoilError : PySem.W.typeIn K (.ref C_BoilError) = some (.type "type"))
    (ibx : PySem.W.subIn K (.ref C_BoilError) (.type "BaseException") = some true)
    (su_NoMould_BoilError : PySem.W.subIn K (.ref C_NoMould) (.ref C_BoilError) = some true)
    (su_NoRoom_BoilError : PySem.W.subIn K (.ref C_NoRoom) (.ref C_BoilError) = some true)
    (su_NoShare_BoilError : PySem.W.subIn K (.ref C_NoShare) (.ref C_BoilError) = some true)
    (su_Empty_BoilError : PySem.W.subIn K (.ref C_Empty) (.ref C_BoilError) = some true)
    (su_Cured_BoilError : PySem.W.subIn K (.ref C_Cured) (.ref C_BoilError) = some true)
    (su_NotCured_BoilError : PySem.W.subIn K (.ref C_NotCured) (.ref C_BoilError) = some true)
    (su_NoMould_NoMould : PySem.W.subIn K (.ref C_NoMould) (.ref C_NoMould) = some true)
    (su_NoMould_NoRoom : PySem.W.subIn K (.ref C_NoMould) (.ref C_NoRoom) = some false)
    (su_NoMould_NoShare : PySem.W.subIn K (.ref C_NoMould) (.ref C_NoShare) = some false)
    (su_NoMould_Empty : PySem.W.subIn K (.ref C_NoMould) (.ref C_Empty) = some false)
    (su_NoMould_Cured : PySem.W.subIn K (.ref C_NoMould) (.ref C_Cured) = some false)
    (su_NoMould_NotCured : PySem.W.subIn K (.ref C_NoMould) (.ref C_NotCured) = some false)
    (su_NoRoom_NoMould : PySem.W.subIn K (.ref C_NoRoom) (.ref C_NoMould) = some false)
    (su_NoRoom_NoRoom : PySem.W.subIn K (.ref C_NoRoom) (.ref C_NoRoom) = some true)
    (su_NoRoom_NoShare : PySem.W.subIn K (.ref C_NoRoom) (.ref C_NoShare) = some false)
    (su_NoRoom_Empty : PySem.W.subIn K (.ref C_NoRoom) (.ref C_Empty) = some false)
    (su_NoRoom_Cured : PySem.W.subIn K (.ref C_NoRoom) (.ref C_Cured) = some false)
    (su_NoRoom_NotCured : PySem.W.subIn K (.ref C_NoRoom) (.ref C_NotCured) = some false)
    (su_NoShare_NoMould : PySem.W.subIn K (.ref C_NoShare) (.ref C_NoMould) = some false)
    (su_NoShare_NoRoom : PySem.W.subIn K (.ref C_NoShare) (.ref C_NoRoom) = some false)
    (su_NoShare_NoShare : PySem.W.subIn K (.ref C_NoShare) (.ref C_NoShare) = some true)
    (su_NoShare_Empty : PySem.W.subIn K (.ref C_NoShare) (.ref C_Empty) = some false)
    (su_NoShare_Cured : PySem.W.subIn K (.ref C_NoShare) (.ref C_Cured) = some false)
    (su_NoShare_NotCured : PySem.W.subIn K (.ref C_NoShare) (.ref C_NotCured) = some false)
    (su_Empty_NoMould : PySem.W.subIn K (.ref C_Empty) (.ref C_NoMould) = some false)
    (su_Empty_NoRoom : PySem.W.subIn K (.ref C_Empty) (.ref C_NoRoom) = some false)
    (su_Empty_NoShare : PySem.W.subIn K (.ref C_Empty) (.ref C_NoShare) = some false)
    (su_Empty_Empty : PySem.W.subIn K (.ref C_Empty) (.ref C_Empty) = some true)
    (su_Empty_Cured : PySem.W.subIn K (.ref C_Empty) (.ref C_Cured) = some false)
    (su_Empty_NotCured : PySem.W.subIn K (.ref C_Empty) (.ref C_NotCured) = some false)
    (su_Cured_NoMould : PySem.W.subIn K (.ref C_Cured) (.ref C_NoMould) = some false)
    (su_Cured_NoRoom : PySem.W.subIn K (.ref C_Cured) (.ref C_NoRoom) = some false)
    (su_Cured_NoShare : PySem.W.subIn K (.ref C_Cured) (.ref C_NoShare) = some false)
    (su_Cured_Empty : PySem.W.subIn K (.ref C_Cured) (.ref C_Empty) = some false)
    (su_Cured_Cured : PySem.W.subIn K (.ref C_Cured) (.ref C_Cured) = some true)
    (su_Cured_NotCured : PySem.W.subIn K (.ref C_Cured) (.ref C_NotCured) = some false)
    (su_NotCured_NoMould : PySem.W.subIn K (.ref C_NotCured) (.ref C_NoMould) = some false)
    (su_NotCured_NoRoom : PySem.W.subIn K (.ref C_NotCured) (.ref C_NoRoom) = some false)
    (su_NotCured_NoShare : PySem.W.subIn K (.ref C_NotCured) (.ref C_NoShare) = some false)
    (su_NotCured_Empty : PySem.W.subIn K (.ref C_NotCured) (.ref C_Empty) = some false)
    (su_NotCured_Cured : PySem.W.subIn K (.ref C_NotCured) (.ref C_Cured) = some false)
    (su_NotCured_NotCured : PySem.W.subIn K (.ref C_NotCured) (.ref C_NotCured) = some true)
    {a_NOUGHT : Addr} {od_NOUGHT : Option Addr} {n_NOUGHT : Nat} {sl_NOUGHT : Array (Option Value)} {t_NOUGHT_0 t_NOUGHT_1 : Tok} (z_NOUGHT : PySem.W.nsIn K mainGlobals "NOUGHT" = some (some (.ref a_NOUGHT))) (l_NOUGHT : K.lookup a_NOUGHT = some ⟨.type "tuple", od_NOUGHT, .seq #[.int 0 t_NOUGHT_0, .int 1 t_NOUGHT_1] n_NOUGHT, sl_NOUGHT⟩)
    {a_ONE : Addr} {od_ONE : Option Addr} {n_ONE : Nat} {sl_ONE : Array (Option Value)} {t_ONE_0 t_ONE_1 : Tok} (z_ONE : PySem.W.nsIn K mainGlobals "ONE" = some (some (.ref a_ONE))) (l_ONE : K.lookup a_ONE = some ⟨.type "tuple", od_ONE, .seq #[.int 1 t_ONE_0, .int 1 t_ONE_1] n_ONE, sl_ONE⟩)
    {a_NOTHING x_NOTHING y_NOTHING : Addr} {od_NOTHING odx_NOTHING ody_NOTHING : Option Addr} {n_NOTHING nx_NOTHING ny_NOTHING : Nat} {sl_NOTHING slx_NOTHING sly_NOTHING : Array (Option Value)} {t1_NOTHING t2_NOTHING t3_NOTHING t4_NOTHING : Tok} (z_NOTHING : PySem.W.nsIn K mainGlobals "NOTHING" = some (some (.ref a_NOTHING))) (l_NOTHING : K.lookup a_NOTHING = some ⟨.type "tuple", od_NOTHING, .seq #[.ref x_NOTHING, .ref y_NOTHING] n_NOTHING, sl_NOTHING⟩) (lx_NOTHING : K.lookup x_NOTHING = some ⟨.type "tuple", odx_NOTHING, .seq #[.int 0 t1_NOTHING, .int 1 t2_NOTHING] nx_NOTHING, slx_NOTHING⟩) (ly_NOTHING : K.lookup y_NOTHING = some ⟨.type "tuple", ody_NOTHING, .seq #[.int 0 t3_NOTHING, .int 1 t4_NOTHING] ny_NOTHING, sly_NOTHING⟩)
    : ∃ (fd : FuncData) (cs : List (Addr × Addr)), (∀ p ∈ cs, ∃ y ∈ (["is_name", "_can_be_kettles", "_can_be_moulds"] : List Str), PySem.W.tabIn K y = some p) ∧ (∀ p ∈ cs, K.lookup p.2 = none) ∧ (∀ (s : Shared) (v : Value), BindsTo s fd ⟨[v], []⟩ [("_law_script", v)]) ∧ ∀ base : Heap, K.In base → base.Ns mainGlobals mg → (∀ p ∈ cs, GxR.TabB base mg p.1 p.2) → FnG l.prog w K mg base 12 fa fd ["_law_script"] (sp_p_law K (cs.map (·.2))) := by
  have e := hfa.symm.trans (PySem.W.mg_of X G a70)
  cases e
  have F0 := fun_mk (st := s_Moulds__named) l0 c0 k0
  have F1 := fun_mk (st := s_Moulds__juices_behind) l1 c1 k1
  have F2 := fun_mk (st := s_Moulds_loaves) l2 c2 k2
  have F3 := fun_mk (st := s_Moulds_vat) l3 c3 k3
  have F4 := fun_mk (st := s_Moulds_bears) l4 c4 k4
  have F5 := fun_mk (st := s_Moulds_is_cured) l5 c5 k5
  have F6 := fun_mk (st := s_Moulds_juice_in) l6 c6 k6
  have F7 := fun_mk (st := s_Moulds_mould_names) l7 c7 k7
  have F8 := fun_mk (st := s_Moulds_draw_off) l8 c8 k8
  have F9 := fun_mk (st := s_Moulds_knock) l9 c9 k9
  have F10 := fun_mk (st := s_Moulds_drain) l10 c10 k10
  have F11 := fun_mk (st := s_Moulds_fill) l11 c11 k11
  have F12 := fun_mk (st := s_Moulds_init) l12 c12 k12
  have F13 := fun_mk (st := s_Mould_clear_out) l13 c13 k13
  have F14 := fun_mk (st := s_Mould_drip_out) l14 c14 k14
  have F15 := fun_mk (st := s_Mould_strike_shares) l15 c15 k15
  have F16 := fun_mk (st := s_Mould_bear) l16 c16 k16
  have F17 := fun_mk (st := s_Mould_init) l17 c17 k17
  have F18 := fun_mk (st := s_SameRow_init) l18 c18 k18
  have F19 := fun_mk (st := s_Row_init) l19 c19 k19
  have F20 := fun_mk (st := s_p_is_number) l20 c20 k20
  have F21 := fun_mk (st := s_p_is_number_within) l21 c21 k21
  have F22 := fun_mk (st := s_p_is_frac) l22 c22 k22
  have F23 := fun_mk (st := s_p_frac_of) l23 c23 k23
  have F24 := fun_mk (st := s_p_sum_of) l24 c24 k24
  have F25 := fun_mk (st := s_p_difference) l25 c25 k25
  have F26 := fun_mk (st := s_p_product) l26 c26 k26
  have F27 := fun_mk (st := s_p_quotient) l27 c27 k27
  have F28 := fun_mk (st := s_p_is_lesser) l28 c28 k28
  have F29 := fun_mk (st := s_p_mixed) l29 c29 k29
  have F30 := fun_mk (st := s_p_share_of) l30 c30 k30
  have F31 := fun_mk (st := s_p_rest_of) l31 c31 k31
  have F32 := fun_mk (st := s_p_volume_of) l32 c32 k32
  have F33 := fun_mk (st := s_p_is_name) l33 c33 k33
  have F34 := fun_mk (st := s_p_are_unlike) l34 c34 k34
  have F35 := fun_mk (st := s_p_is_kettle) l35 c35 k35
  have F36 := fun_mk (st := s_p_is_mould) l36 c36 k36
  have F37 := fun_mk (st := s_p__can_be_kettles) l37 c37 k37
  have F38 := fun_mk (st := s_p__can_be_moulds) l38 c38 k38
  have F39 := fun_mk (st := s_p__are_name_and_room) l39 c39 k39
  have F40 := fun_mk (st := s_p__is_mark) l40 c40 k40
  have F41 := fun_mk (st := s_p__is_drip) l41 c41 k41
  have F42 := fun_mk (st := s_p_need_share) l42 c42 k42
  have F43 := fun_mk (st := s_p_need_some) l43 c43 k43
  have F44 := fun_mk (st := s_p_poured_into) l44 c44 k44
  have F45 := fun_mk (st := s_l_cell_at) l45 c45 k45
  have F46 := fun_mk (st := s_l_box) l46 c46 k46
  have F47 := fun_mk (st := s_l_take) l47 c47 k47
  have F48 := fun_mk (st := s_l_names) l48 c48 k48
  have F49 := fun_mk (st := s_l_low) l49 c49 k49
  have F50 := fun_mk (st := s_l_plus) l50 c50 k50
  have F51 := fun_mk (st := s_l_by) l51 c51 k51
  have F52 := fun_mk (st := s_l_share) l52 c52 k52
  have F53 := fun_mk (st := s_l_same) l53 c53 k53
  have F54 := fun_mk (st := s_l_row) l54 c54 k54
  have F55 := fun_mk (st := s_l_new) l55 c55 k55
  have F56 := fun_mk (st := s_l_copied) l56 c56 k56
  have F57 := fun_mk (st := s_l_inside) l57 c57 k57
  have F58 := fun_mk (st := s_l_bears) l58 c58 k58
  have F59 := fun_mk (st := s_l_is_more) l59 c59 k59
  have F60 := fun_mk (st := s_l_fill) l60 c60 k60
  have F61 := fun_mk (st := s_l_drain) l61 c61 k61
  have F62 := fun_mk (st := s_l_knock) l62 c62 k62
  have F63 := fun_mk (st := s_l_draw) l63 c63 k63
  have F64 := fun_mk (st := s_l_done) l64 c64 k64
  have F65 := fun_mk (st := s_l_told) l65 c65 k65
  have F66 := fun_mk (st := s_l_stands) l66 c66 k66
  have F67 := fun_mk (st := s_l_juice) l67 c67 k67
  have F68 := fun_mk (st := s_l_pours) l68 c68 k68
  have F69 := fun_mk (st := s_l_deed) l69 c69 k69
  have F70 := fun_mk (st := s_p_law) l70 c70 k70
  have FI_NoMould := fun_mk (st := s_init_NoMould) xl_NoMould xc_NoMould xki_NoMould
  have FI_NoRoom := fun_mk (st := s_init_NoRoom) xl_NoRoom xc_NoRoom xki_NoRoom
  have FI_NoShare := fun_mk (st := s_init_NoShare) xl_NoShare xc_NoShare xki_NoShare
  have FI_Empty := fun_mk (st := s_init_Empty) xl_Empty xc_Empty xki_Empty
  have FI_Cured := fun_mk (st := s_init_Cured) xl_Cured xc_Cured xki_Cured
  have FI_NotCured := fun_mk (st := s_init_NotCured) xl_NotCured xc_NotCured xki_NotCured
  let T : All K mg := ⟨_, _, F0, F0.binds (ps := ["self", "name"]) fun _ _ _ _ _ _ us hl => match us, hl with | [_, _], _ => rfl, _, _, F1, F1.binds (ps := ["self", "pours"]) fun _ _ _ _ _ _ us hl => match us, hl with | [_, _], _ => rfl, _, _, F2, F2.binds (ps := ["self"]) fun _ _ _ _ _ _ us hl => match us, hl with | [_], _ => rfl, _, _, F3, F3.binds (ps := ["self"]) fun _ _ _ _ _ _ us hl => match us, hl with | [_], _ => rfl, _, _, F4, F4.binds (ps := ["self", "mould"]) fun _ _ _ _ _ _ us hl => match us, hl with | [_, _], _ => rfl, _, _, F5, F5.binds (ps := ["self", "mould"]) fun _ _ _ _ _ _ us hl => match us, hl with | [_, _], _ => rfl, _, _, F6, F6.binds (ps := ["self", "mould"]) fun _ _ _ _ _ _ us hl => match us, hl with | [_, _], _ => rfl, _, _, F7, F7.binds (ps := ["self"]) fun _ _ _ _ _ _ us hl => match us, hl with | [_], _ => rfl, _, _, F8, F8.binds (ps := ["self", "share"]) fun _ _ _ _ _ _ us hl => match us, hl with | [_, _], _ => rfl, _, _, F9, F9.binds (ps := ["self", "mould"]) fun _ _ _ _ _ _ us hl => match us, hl with | [_, _], _ => rfl, _, _, F10, F10.binds (ps := ["self", "mould"]) fun _ _ _ _ _ _ us hl => match us, hl with | [_, _], _ => rfl, _, _, F11, F11.binds (ps := ["self", "strike", "pours"]) fun _ _ _ _ _ _ us hl => match us, hl with | [_, _, _], _ => rfl, _, _, F12, F12.binds (ps := ["self", "row"]) fun _ _ _ _ _ _ us hl => match us, hl with | [_, _], _ => rfl, _, _, F13, F13.binds (ps := ["self"]) fun _ _ _ _ _ _ us hl => match us, hl with | [_], _ => rfl, _, _, F14, F14.binds (ps := ["self"]) fun _ _ _ _ _ _ us hl => match us, hl with | [_], _ => rfl, _, _, F15, F15.binds (ps := ["self"]) fun _ _ _ _ _ _ us hl => match us, hl with | [_], _ => rfl, _, _, F16, F16.binds (ps := ["self", "strike", "sugar"]) fun _ _ _ _ _ _ us hl => match us, hl with | [_, _, _], _ => rfl, _, _, F17, F17.binds (ps := ["self", "room", "drip"]) fun _ _ _ _ _ _ us hl => match us, hl with | [_, _, _], _ => rfl, _, _, F18, F18.binds (ps := ["self", "row"]) fun _ _ _ _ _ _ us hl => match us, hl with | [_, _], _ => rfl, _, _, F19, F19.binds (ps := ["self", "kettles", "moulds"]) fun _ _ _ _ _ _ us hl => match us, hl with | [_, _, _], _ => rfl, _, _, ⟨F20, PySem.W.mg_of X G a20, F20.binds (ps := ["thing"]) fun _ _ _ _ _ _ us hl => match us, hl with | [_], _ => rfl⟩, _, _, ⟨F21, PySem.W.mg_of X G a21, F21.binds (ps := ["thing", "least", "most"]) fun _ _ _ _ _ _ us hl => match us, hl with | [_, _, _], _ => rfl⟩, _, _, ⟨F22, PySem.W.mg_of X G a22, F22.binds (ps := ["thing"]) fun _ _ _ _ _ _ us hl => match us, hl with | [_], _ => rfl⟩, _, _, ⟨F23, PySem.W.mg_of X G a23, F23.binds (ps := ["top", "bottom"]) fun _ _ _ _ _ _ us hl => match us, hl with | [_, _], _ => rfl⟩, _, _, ⟨F24, PySem.W.mg_of X G a24, F24.binds (ps := ["one", "other"]) fun _ _ _ _ _ _ us hl => match us, hl with | [_, _], _ => rfl⟩, _, _, ⟨F25, PySem.W.mg_of X G a25, F25.binds (ps := ["one", "other"]) fun _ _ _ _ _ _ us hl => match us, hl with | [_, _], _ => rfl⟩, _, _, ⟨F26, PySem.W.mg_of X G a26, F26.binds (ps := ["one", "other"]) fun _ _ _ _ _ _ us hl => match us, hl with | [_, _], _ => rfl⟩, _, _, ⟨F27, PySem.W.mg_of X G a27, F27.binds (ps := ["one", "other"]) fun _ _ _ _ _ _ us hl => match us, hl with | [_, _], _ => rfl⟩, _, _, ⟨F28, PySem.W.mg_of X G a28, F28.binds (ps := ["one", "other"]) fun _ _ _ _ _ _ us hl => match us, hl with | [_, _], _ => rfl⟩, _, _, ⟨F29, PySem.W.mg_of X G a29, F29.binds (ps := ["one", "other"]) fun _ _ _ _ _ _ us hl => match us, hl with | [_, _], _ => rfl⟩, _, _, ⟨F30, PySem.W.mg_of X G a30, F30.binds (ps := ["juice", "share"]) fun _ _ _ _ _ _ us hl => match us, hl with | [_, _], _ => rfl⟩, _, _, ⟨F31, PySem.W.mg_of X G a31, F31.binds (ps := ["juice", "share"]) fun _ _ _ _ _ _ us hl => match us, hl with | [_, _], _ => rfl⟩, _, _, ⟨F32, PySem.W.mg_of X G a32, F32.binds (ps := ["juice"]) fun _ _ _ _ _ _ us hl => match us, hl with | [_], _ => rfl⟩, _, _, ⟨F33, PySem.W.mg_of X G a33, F33.binds (ps := ["thing"]) fun _ _ _ _ _ _ us hl => match us, hl with | [_], _ => rfl⟩, _, _, ⟨F34, PySem.W.mg_of X G a34, F34.binds (ps := ["names"]) fun _ _ _ _ _ _ us hl => match us, hl with | [_], _ => rfl⟩, _, _, ⟨F35, PySem.W.mg_of X G a35, F35.binds (ps := ["thing"]) fun _ _ _ _ _ _ us hl => match us, hl with | [_], _ => rfl⟩, _, _, ⟨F36, PySem.W.mg_of X G a36, F36.binds (ps := ["thing"]) fun _ _ _ _ _ _ us hl => match us, hl with | [_], _ => rfl⟩, _, _, ⟨F37, PySem.W.mg_of X G a37, F37.binds (ps := ["things"]) fun _ _ _ _ _ _ us hl => match us, hl with | [_], _ => rfl⟩, _, _, ⟨F38, PySem.W.mg_of X G a38, F38.binds (ps := ["things", "kettles"]) fun _ _ _ _ _ _ us hl => match us, hl with | [_, _], _ => rfl⟩, _, _, ⟨F39, PySem.W.mg_of X G a39, F39.binds (ps := ["name", "room"]) fun _ _ _ _ _ _ us hl => match us, hl with | [_, _], _ => rfl⟩, _, _, ⟨F40, PySem.W.mg_of X G a40, F40.binds (ps := ["thing"]) fun _ _ _ _ _ _ us hl => match us, hl with | [_], _ => rfl⟩, _, _, ⟨F41, PySem.W.mg_of X G a41, F41.binds (ps := ["thing"]) fun _ _ _ _ _ _ us hl => match us, hl with | [_], _ => rfl⟩, _, _, ⟨F42, PySem.W.mg_of X G a42, F42.binds (ps := ["share"]) fun _ _ _ _ _ _ us hl => match us, hl with | [_], _ => rfl⟩, _, _, ⟨F43, PySem.W.mg_of X G a43, F43.binds (ps := ["name", "juice"]) fun _ _ _ _ _ _ us hl => match us, hl with | [_, _], _ => rfl⟩, _, _, ⟨F44, PySem.W.mg_of X G a44, F44.binds (ps := ["name", "room", "juice", "more"]) fun _ _ _ _ _ _ us hl => match us, hl with | [_, _, _, _], _ => rfl⟩, _, _, ⟨F45, PySem.W.mg_of X G a45, F45.binds (ps := ["_law_script", "_law_k"]) fun _ _ _ _ _ _ us hl => match us, hl with | [_, _], _ => rfl⟩, _, _, ⟨F46, PySem.W.mg_of X G a46, F46.binds (ps := ["_law_script", "_law_k"]) fun _ _ _ _ _ _ us hl => match us, hl with | [_, _], _ => rfl⟩, _, _, ⟨F47, PySem.W.mg_of X G a47, F47.binds (ps := ["_law_box_here", "_law_many"]) fun _ _ _ _ _ _ us hl => match us, hl with | [_, _], _ => rfl⟩, _, _, ⟨F48, PySem.W.mg_of X G a48, F48.binds (ps := ["_law_box_here", "_law_many"]) fun _ _ _ _ _ _ us hl => match us, hl with | [_, _], _ => rfl⟩, _, _, ⟨F49, PySem.W.mg_of X G a49, F49.binds (ps := ["_law_top", "_law_bottom"]) fun _ _ _ _ _ _ us hl => match us, hl with | [_, _], _ => rfl⟩, _, _, ⟨F50, PySem.W.mg_of X G a50, F50.binds (ps := ["_law_one", "_law_other"]) fun _ _ _ _ _ _ us hl => match us, hl with | [_, _], _ => rfl⟩, _, _, ⟨F51, PySem.W.mg_of X G a51, F51.binds (ps := ["_law_one", "_law_other"]) fun _ _ _ _ _ _ us hl => match us, hl with | [_, _], _ => rfl⟩, _, _, ⟨F52, PySem.W.mg_of X G a52, F52.binds (ps := ["_law_box_here"]) fun _ _ _ _ _ _ us hl => match us, hl with | [_], _ => rfl⟩, _, _, ⟨F53, PySem.W.mg_of X G a53, F53.binds (ps := ["_law_found", "_law_due"]) fun _ _ _ _ _ _ us hl => match us, hl with | [_, _], _ => rfl⟩, _, _, ⟨F54, PySem.W.mg_of X G a54, F54.binds (ps := ["_law_box_here", "_law_many", "_law_great"]) fun _ _ _ _ _ _ us hl => match us, hl with | [_, _, _], _ => rfl⟩, _, _, ⟨F55, PySem.W.mg_of X G a55, F55.binds (ps := ["_law_row_here"]) fun _ _ _ _ _ _ us hl => match us, hl with | [_], _ => rfl⟩, _, _, ⟨F56, PySem.W.mg_of X G a56, F56.binds (ps := ["_law_m"]) fun _ _ _ _ _ _ us hl => match us, hl with | [_], _ => rfl⟩, _, _, ⟨F57, PySem.W.mg_of X G a57, F57.binds (ps := ["_law_m", "_law_mould"]) fun _ _ _ _ _ _ us hl => match us, hl with | [_, _], _ => rfl⟩, _, _, ⟨F58, PySem.W.mg_of X G a58, F58.binds (ps := ["_law_m", "_law_mould"]) fun _ _ _ _ _ _ us hl => match us, hl with | [_, _], _ => rfl⟩, _, _, ⟨F59, PySem.W.mg_of X G a59, F59.binds (ps := ["_law_one", "_law_other"]) fun _ _ _ _ _ _ us hl => match us, hl with | [_, _], _ => rfl⟩, _, _, ⟨F60, PySem.W.mg_of X G a60, F60.binds (ps := ["_law_m", "_law_strike", "_law_pours_here"]) fun _ _ _ _ _ _ us hl => match us, hl with | [_, _, _], _ => rfl⟩, _, _, ⟨F61, PySem.W.mg_of X G a61, F61.binds (ps := ["_law_m", "_law_mould"]) fun _ _ _ _ _ _ us hl => match us, hl with | [_, _], _ => rfl⟩, _, _, ⟨F62, PySem.W.mg_of X G a62, F62.binds (ps := ["_law_m", "_law_mould"]) fun _ _ _ _ _ _ us hl => match us, hl with | [_, _], _ => rfl⟩, _, _, ⟨F63, PySem.W.mg_of X G a63, F63.binds (ps := ["_law_m", "_law_share_here"]) fun _ _ _ _ _ _ us hl => match us, hl with | [_, _], _ => rfl⟩, _, _, ⟨F64, PySem.W.mg_of X G a64, F64.binds (ps := ["_law_m", "_law_deed_here"]) fun _ _ _ _ _ _ us hl => match us, hl with | [_, _], _ => rfl⟩, _, _, ⟨F65, PySem.W.mg_of X G a65, F65.binds (ps := ["_law_moulds", "_law_deed_here"]) fun _ _ _ _ _ _ us hl => match us, hl with | [_, _], _ => rfl⟩, _, _, ⟨F66, PySem.W.mg_of X G a66, F66.binds (ps := ["_law_moulds", "_law_m"]) fun _ _ _ _ _ _ us hl => match us, hl with | [_, _], _ => rfl⟩, _, _, ⟨F67, PySem.W.mg_of X G a67, F67.binds (ps := ["_law_box_here", "_law_room"]) fun _ _ _ _ _ _ us hl => match us, hl with | [_, _], _ => rfl⟩, _, _, ⟨F68, PySem.W.mg_of X G a68, F68.binds (ps := ["_law_box_here", "_law_m", "_law_names_here"]) fun _ _ _ _ _ _ us hl => match us, hl with | [_, _, _], _ => rfl⟩, _, _, ⟨F69, PySem.W.mg_of X G a69, F69.binds (ps := ["_law_box_here", "_law_m", "_law_sorts"]) fun _ _ _ _ _ _ us hl => match us, hl with | [_, _, _], _ => rfl⟩, _, _, ⟨F70, PySem.W.mg_of X G a70, F70.binds (ps := ["_law_script"]) fun _ _ _ _ _ _ us hl => match us, hl with | [_], _ => rfl⟩, PySem.W.mg_none_of X G z_abs, PySem.W.mg_none_of X G z_all, PySem.W.mg_none_of X G z_bool, PySem.W.mg_none_of X G z_dict, PySem.W.mg_none_of X G z_divmod, PySem.W.mg_none_of X G z_int, PySem.W.mg_none_of X G z_isinstance, PySem.W.mg_none_of X G z_len, PySem.W.mg_none_of X G z_list, PySem.W.mg_none_of X G z_max, PySem.W.mg_none_of X G z_min, PySem.W.mg_none_of X G z_range, PySem.W.mg_none_of X G z_set, PySem.W.mg_none_of X G z_sorted, PySem.W.mg_none_of X G z_str, PySem.W.mg_none_of X G z_tuple, PySem.W.mg_none_of X G z_zip, PySem.W.mg_of X G z_gcd, _, PySem.W.mg_of X G z_MOST_LETTERS, _, PySem.W.mg_of X G z_MOST_KETTLES, _, PySem.W.mg_of X G z_MOST_MOULDS, _, PySem.W.mg_of X G z_MOST_ROOM, _, PySem.W.mg_of X G z_MOST_FIRE, _, PySem.W.mg_of X G z_MOST_MARK_BOTTOM, _, PySem.W.mg_of X G z_MOST_DRIP_BOTTOM, _, PySem.W.mg_of X G z_MOST_BOTTOM, _, PySem.W.mg_of X G z_VAT, _, PySem.W.mg_of X G y_BoilError, _, PySem.W.mg_of X G y_NoMould, _, PySem.W.mg_of X G y_NoRoom, _, PySem.W.mg_of X G y_NoShare, _, PySem.W.mg_of X G y_Empty, _, PySem.W.mg_of X G y_Cured, _, PySem.W.mg_of X G y_NotCured, ⟨⟨_, _, _, _, _, _, _, _, _, _, _, _, _, _, _, xL_NoMould, rfl⟩, xsa_NoMould, xex_NoMould, xty_NoMould, xk_NoMould⟩, _, _, xi_NoMould, xti_NoMould, FI_NoMould, FI_NoMould.binds (ps := ["self", "what"]) fun _ _ _ _ _ _ us hl => match us, hl with | [_, _], _ => rfl, ⟨ecl_NoMould, ega_NoMould, egg_NoMould, xex_NoMould, ecs_NoMould, ege_NoMould, etk_NoMould, eob_NoMould, edi_NoMould, efl_NoMould⟩, ⟨⟨_, t2_NoMould, xL_NoMould, rfl, rfl⟩, ern_NoMould, efw_NoMould, efc_NoMould⟩, ⟨⟨_, _, _, _, _, _, _, _, _, _, _, _, _, _, _, xL_NoRoom, rfl⟩, xsa_NoRoom, xex_NoRoom, xty_NoRoom, xk_NoRoom⟩, _, _, xi_NoRoom, xti_NoRoom, FI_NoRoom, FI_NoRoom.binds (ps := ["self", "what"]) fun _ _ _ _ _ _ us hl => match us, hl with | [_, _], _ => rfl, ⟨ecl_NoRoom, ega_NoRoom, egg_NoRoom, xex_NoRoom, ecs_NoRoom, ege_NoRoom, etk_NoRoom, eob_NoRoom, edi_NoRoom, efl_NoRoom⟩, ⟨⟨_, t2_NoRoom, xL_NoRoom, rfl, rfl⟩, ern_NoRoom, efw_NoRoom, efc_NoRoom⟩, ⟨⟨_, _, _, _, _, _, _, _, _, _, _, _, _, _, _, xL_NoShare, rfl⟩, xsa_NoShare, xex_NoShare, xty_NoShare, xk_NoShare⟩, _, _, xi_NoShare, xti_NoShare, FI_NoShare, FI_NoShare.binds (ps := ["self", "what"]) fun _ _ _ _ _ _ us hl => match us, hl with | [_, _], _ => rfl, ⟨ecl_NoShare, ega_NoShare, egg_NoShare, xex_NoShare, ecs_NoShare, ege_NoShare, etk_NoShare, eob_NoShare, edi_NoShare, efl_NoShare⟩, ⟨⟨_, t2_NoShare, xL_NoShare, rfl, rfl⟩, ern_NoShare, efw_NoShare, efc_NoShare⟩, ⟨⟨_, _, _, _, _, _, _, _, _, _, _, _, _, _, _, xL_Empty, rfl⟩, xsa_Empty, xex_Empty, xty_Empty, xk_Empty⟩, _, _, xi_Empty, xti_Empty, FI_Empty, FI_Empty.binds (ps := ["self", "what"]) fun _ _ _ _ _ _ us hl => match us, hl with | [_, _], _ => rfl, ⟨ecl_Empty, ega_Empty, egg_Empty, xex_Empty, ecs_Empty, ege_Empty, etk_Empty, eob_Empty, edi_Empty, efl_Empty⟩, ⟨⟨_, t2_Empty, xL_Empty, rfl, rfl⟩, ern_Empty, efw_Empty, efc_Empty⟩, ⟨⟨_, _, _, _, _, _, _, _, _, _, _, _, _, _, _, xL_Cured, rfl⟩, xsa_Cured, xex_Cured, xty_Cured, xk_Cured⟩, _, _, xi_Cured, xti_Cured, FI_Cured, FI_Cured.binds (ps := ["self", "what"]) fun _ _ _ _ _ _ us hl => match us, hl with | [_, _], _ => rfl, ⟨ecl_Cured, ega_Cured, egg_Cured, xex_Cured, ecs_Cured, ege_Cured, etk_Cured, eob_Cured, edi_Cured, efl_Cured⟩, ⟨⟨_, t2_Cured, xL_Cured, rfl, rfl⟩, ern_Cured, efw_Cured, efc_Cured⟩, ⟨⟨_, _, _, _, _, _, _, _, _, _, _, _, _, _, _, xL_NotCured, rfl⟩, xsa_NotCured, xex_NotCured, xty_NotCured, xk_NotCured⟩, _, _, xi_NotCured, xti_NotCured, FI_NotCured, FI_NotCured.binds (ps := ["self", "what"]) fun _ _ _ _ _ _ us hl => match us, hl with | [_, _], _ => rfl, ⟨ecl_NotCured, ega_NotCured, egg_NotCured, xex_NotCured, ecs_NotCured, ege_NotCured, etk_NotCured, eob_NotCured, edi_NotCured, efl_NotCured⟩, ⟨⟨_, t2_NotCured, xL_NotCured, rfl, rfl⟩, ern_NotCured, efw_NotCured, efc_NotCured⟩, exm_own ibx ic_BoilError it_BoilError su_NoMould_BoilError, exm_own ibx ic_BoilError it_BoilError su_NoRoom_BoilError, exm_own ibx ic_BoilError it_BoilError su_NoShare_BoilError, exm_own ibx ic_BoilError it_BoilError su_Empty_BoilError, exm_own ibx ic_BoilError it_BoilError su_Cured_BoilError, exm_own ibx ic_BoilError it_BoilError su_NotCured_BoilError, kit_own ecl_NoMould xty_NoMould su_NoMould_NoMould su_NoMould_NoMould, kit_own ecl_NoRoom xty_NoRoom su_NoMould_NoRoom su_NoMould_NoMould, kit_own ecl_NoShare xty_NoShare su_NoMould_NoShare su_NoMould_NoMould, kit_own ecl_Empty xty_Empty su_NoMould_Empty su_NoMould_NoMould, kit_own ecl_Cured xty_Cured su_NoMould_Cured su_NoMould_NoMould, kit_own ecl_NotCured xty_NotCured su_NoMould_NotCured su_NoMould_NoMould, kit_own ecl_NoMould xty_NoMould su_NoRoom_NoMould su_NoRoom_NoRoom, kit_own ecl_NoRoom xty_NoRoom su_NoRoom_NoRoom su_NoRoom_NoRoom, kit_own ecl_NoShare xty_NoShare su_NoRoom_NoShare su_NoRoom_NoRoom, kit_own ecl_Empty xty_Empty su_NoRoom_Empty su_NoRoom_NoRoom, kit_own ecl_Cured xty_Cured su_NoRoom_Cured su_NoRoom_NoRoom, kit_own ecl_NotCured xty_NotCured su_NoRoom_NotCured su_NoRoom_NoRoom, kit_own ecl_NoMould xty_NoMould su_NoShare_NoMould su_NoShare_NoShare, kit_own ecl_NoRoom xty_NoRoom su_NoShare_NoRoom su_NoShare_NoShare, kit_own ecl_NoShare xty_NoShare su_NoShare_NoShare su_NoShare_NoShare, kit_own ecl_Empty xty_Empty su_NoShare_Empty su_NoShare_NoShare, kit_own ecl_Cured xty_Cured su_NoShare_Cured su_NoShare_NoShare, kit_own ecl_NotCured xty_NotCured su_NoShare_NotCured su_NoShare_NoShare, kit_own ecl_NoMould xty_NoMould su_Empty_NoMould su_Empty_Empty, kit_own ecl_NoRoom xty_NoRoom su_Empty_NoRoom su_Empty_Empty, kit_own ecl_NoShare xty_NoShare su_Empty_NoShare su_Empty_Empty, kit_own ecl_Empty xty_Empty su_Empty_Empty su_Empty_Empty, kit_own ecl_Cured xty_Cured su_Empty_Cured su_Empty_Empty, kit_own ecl_NotCured xty_NotCured su_Empty_NotCured su_Empty_Empty, kit_own ecl_NoMould xty_NoMould su_Cured_NoMould su_Cured_Cured, kit_own ecl_NoRoom xty_NoRoom su_Cured_NoRoom su_Cured_Cured, kit_own ecl_NoShare xty_NoShare su_Cured_NoShare su_Cured_Cured, kit_own ecl_Empty xty_Empty su_Cured_Empty su_Cured_Cured, kit_own ecl_Cured xty_Cured su_Cured_Cured su_Cured_Cured, kit_own ecl_NotCured xty_NotCured su_Cured_NotCured su_Cured_Cured, kit_own ecl_NoMould xty_NoMould su_NotCured_NoMould su_NotCured_NotCured, kit_own ecl_NoRoom xty_NoRoom su_NotCured_NoRoom su_NotCured_NotCured, kit_own ecl_NoShare xty_NoShare su_NotCured_NoShare su_NotCured_NotCured, kit_own ecl_Empty xty_Empty su_NotCured_Empty su_NotCured_NotCured, kit_own ecl_Cured xty_Cured su_NotCured_Cured su_NotCured_NotCured, kit_own ecl_NotCured xty_NotCured su_NotCured_NotCured su_NotCured_NotCured, _, PySem.W.mg_of X G g_Row, ⟨mk_Row, a19, i19, kc_Row⟩, ⟨pg_Row, hd_Row, po_Row, sa_Row⟩, nf_Row_kettles, nf_Row_moulds, _, PySem.W.mg_of X G g_SameRow, ⟨mk_SameRow, a18, i18, kc_SameRow⟩, ⟨pg_SameRow, hd_SameRow, po_SameRow, sa_SameRow⟩, nf_SameRow_kettles, nf_SameRow_moulds, _, PySem.W.mg_of X G g_Mould, ⟨mk_Mould, a17, i17, kc_Mould⟩, ⟨pg_Mould, hd_Mould, po_Mould, sa_Mould⟩, nf_Mould_room, nf_Mould_drip, nf_Mould_juice, nf_Mould_sugars, nf_Mould_cured, _, PySem.W.mg_of X G g_Moulds, ⟨mk_Moulds, a12, i12, kc_Moulds⟩, ⟨pg_Moulds, hd_Moulds, po_Moulds, sa_Moulds⟩, nf_Moulds__row, nf_Moulds__table, nf_Moulds__vat, nf_Moulds__loaves, ⟨a0, i0, k0⟩, ⟨a1, i1, k1⟩, ⟨a2, i2, k2⟩, ⟨a3, i3, k3⟩, ⟨a4, i4, k4⟩, ⟨a5, i5, k5⟩, ⟨a6, i6, k6⟩, ⟨a7, i7, k7⟩, ⟨a8, i8, k8⟩, ⟨a9, i9, k9⟩, ⟨a10, i10, k10⟩, ⟨a11, i11, k11⟩, ⟨a13, i13, k13⟩, ⟨a14, i14, k14⟩, ⟨a15, i15, k15⟩, ⟨a16, i16, k16⟩, C33, P33, funC_mk (st := s_p_is_name) l33 c33, C37, P37, funC_mk (st := s_p__can_be_kettles) l37 c37, C38, P38, funC_mk (st := s_p__can_be_moulds) l38 c38, _, PySem.W.mg_of X G z_NOTHING, ⟨_, _, fun H => ⟨.inr ⟨_, _, _, l_NOTHING, rfl, rfl, small (n := 2) (by decide), .cons rfl (.cons rfl .nil)⟩, .inr ⟨_, _, _, lx_NOTHING, rfl, rfl, small (n := 2) (by decide), .cons ⟨_, rfl⟩ (.cons ⟨_, rfl⟩ .nil)⟩, .inr ⟨_, _, _, ly_NOTHING, rfl, rfl, small (n := 2) (by decide), .cons ⟨_, rfl⟩ (.cons ⟨_, rfl⟩ .nil)⟩⟩⟩, _, PySem.W.mg_of X G z_NOUGHT, fun H => .inr ⟨_, _, _, l_NOUGHT, rfl, rfl, small (n := 2) (by decide), .cons ⟨_, rfl⟩ (.cons ⟨_, rfl⟩ (.nil))⟩, _, PySem.W.mg_of X G z_ONE, fun H => .inr ⟨_, _, _, l_ONE, rfl, rfl, small (n := 2) (by decide), .cons ⟨_, rfl⟩ (.cons ⟨_, rfl⟩ (.nil))⟩⟩
  refine ⟨T.fd_p_law, [(C33, P33), (C37, P37), (C38, P38)], ((List.forall_mem_cons (p := fun (p : Addr × Addr) => ∃ y ∈ (["is_name", "_can_be_kettles", "_can_be_moulds"] : List Str), PySem.W.tabIn K y = some p)).mpr ⟨⟨"is_name", by decide, tabIn_of a33 l33 rfl q33 p33⟩, ((List.forall_mem_cons (p := fun (p : Addr × Addr) => ∃ y ∈ (["is_name", "_can_be_kettles", "_can_be_moulds"] : List Str), PySem.W.tabIn K y = some p)).mpr ⟨⟨"_can_be_kettles", by decide, tabIn_of a37 l37 rfl q37 p37⟩, ((List.forall_mem_cons (p := fun (p : Addr × Addr) => ∃ y ∈ (["is_name", "_can_be_kettles", "_can_be_moulds"] : List Str), PySem.W.tabIn K y = some p)).mpr ⟨⟨"_can_be_moulds", by decide, tabIn_of a38 l38 rfl q38 p38⟩, fun p hp => absurd hp List.not_mem_nil⟩)⟩)⟩), ((List.forall_mem_cons (p := fun (p : Addr × Addr) => K.lookup p.2 = none)).mpr ⟨n33, ((List.forall_mem_cons (p := fun (p : Addr × Addr) => K.lookup p.2 = none)).mpr ⟨n37, ((List.forall_mem_cons (p := fun (p : Addr × Addr) => K.lookup p.2 = none)).mpr ⟨n38, fun p hp => absurd hp List.not_mem_nil⟩)⟩)⟩), fun s v => .of_eq rfl, fun base _ _ B => ?_⟩
  have B : Tabs T base := ⟨B (C33, P33) (by simp), B (C37, P37) (by simp), B (C38, P38) (by simp)⟩
  exact ok_p_law T B
end KR
open PySem PySem.W PyProof.Rows
set_option maxRecDepth 100000 in
set_option maxHeartbeats 0 in
theorem PySem.Challenge.cw_kettlerow_k34_loaves_knocked_out_holds : PySem.Challenge.rw_kettlerow_k34_loaves_knocked_out.Holds := by
  w_on; o_law; k_head; (case hw => w_witness2)
  k_fill
  refine KR.walk_ofT (l := PySem.Challenge.rw_kettlerow_k34_loaves_knocked_out) (n := 63) (k := 12) (x := "_law_script") (sp := fun w Ps => KR.sp_p_law _ Ps) ["is_name", "_can_be_kettles", "_can_be_moulds"] rfl (by decide) rfl ⟨rfl, by decide, by decide⟩ (fun w h Y => PySem.W.kIn_of Y) (by decide +kernel) ?F (fun _ _ _ a ns hl hT hS => ⟨a, ns, rfl, hS, hl, hT, fun _ => rfl⟩)
  case F =>
    intro w mg fa h KX G hmg
    refine' KR.all_mk KX G hmg ?g_Row ?pg_Row ?hd_Row ?po_Row ?sa_Row ?mk_Row ?kc_Row ?nf_Row_kettles ?nf_Row_moulds ?g_SameRow ?pg_SameRow ?hd_SameRow ?po_SameRow ?sa_SameRow ?mk_SameRow ?kc_SameRow ?nf_SameRow_kettles ?nf_SameRow_moulds ?g_Mould ?pg_Mould ?hd_Mould ?po_Mould ?sa_Mould ?mk_Mould ?kc_Mould ?nf_Mould_room ?nf_Mould_drip ?nf_Mould_juice ?nf_Mould_sugars ?nf_Mould_cured ?g_Moulds ?pg_Moulds ?hd_Moulds ?po_Moulds ?sa_Moulds ?mk_Moulds ?kc_Moulds ?nf_Moulds__row ?nf_Moulds__table ?nf_Moulds__vat ?nf_Moulds__loaves ?a0 ?l0 ?c0 ?k0 ?i0 ?a1 ?l1 ?c1 ?k1 ?i1 ?a2 ?l2 ?c2 ?k2 ?i2 ?a3 ?l3 ?c3 ?k3 ?i3 ?a4 ?l4 ?c4 ?k4 ?i4 ?a5 ?l5 ?c5 ?k5 ?i5 ?a6 ?l6 ?c6 ?k6 ?i6 ?a7 ?l7 ?c7 ?k7 ?i7 ?a8 ?l8 ?c8 ?k8 ?i8 ?a9 ?l9 ?c9 ?k9 ?i9 ?a10 ?l10 ?c10 ?k10 ?i10 ?a11 ?l11 ?c11 ?k11 ?i11 ?a12 ?l12 ?c12 ?k12 ?i12 ?a13 ?l13 ?c13 ?k13 ?i13 ?a14 ?l14 ?c14 ?k14 ?i14 ?a15 ?l15 ?c15 ?k15 ?i15 ?a16 ?l16 ?c16 ?k16 ?i16 ?a17 ?l17 ?c17 ?k17 ?i17 ?a18 ?l18 ?c18 ?k18 ?i18 ?a19 ?l19 ?c19 ?k19 ?i19 ?a20 ?l20 ?c20 ?k20 ?a21 ?l21 ?c21 ?k21 ?a22 ?l22 ?c22 ?k22 ?a23 ?l23 ?c23 ?k23 ?a24 ?l24 ?c24 ?k24 ?a25 ?l25 ?c25 ?k25 ?a26 ?l26 ?c26 ?k26 ?a27 ?l27 ?c27 ?k27 ?a28 ?l28 ?c28 ?k28 ?a29 ?l29 ?c29 ?k29 ?a30 ?l30 ?c30 ?k30 ?a31 ?l31 ?c31 ?k31 ?a32 ?l32 ?c32 ?k32 ?a33 ?l33 ?c33 ?k33 ?q33 ?p33 ?n33 ?a34 ?l34 ?c34 ?k34 ?a35 ?l35 ?c35 ?k35 ?a36 ?l36 ?c36 ?k36 ?a37 ?l37 ?c37 ?k37 ?q37 ?p37 ?n37 ?a38 ?l38 ?c38 ?k38 ?q38 ?p38 ?n38 ?a39 ?l39 ?c39 ?k39 ?a40 ?l40 ?c40 ?k40 ?a41 ?l41 ?c41 ?k41 ?a42 ?l42 ?c42 ?k42 ?a43 ?l43 ?c43 ?k43 ?a44 ?l44 ?c44 ?k44 ?a45 ?l45 ?c45 ?k45 ?a46 ?l46 ?c46 ?k46 ?a47 ?l47 ?c47 ?k47 ?a48 ?l48 ?c48 ?k48 ?a49 ?l49 ?c49 ?k49 ?a50 ?l50 ?c50 ?k50 ?a51 ?l51 ?c51 ?k51 ?a52 ?l52 ?c52 ?k52 ?a53 ?l53 ?c53 ?k53 ?a54 ?l54 ?c54 ?k54 ?a55 ?l55 ?c55 ?k55 ?a56 ?l56 ?c56 ?k56 ?a57 ?l57 ?c57 ?k57 ?a58 ?l58 ?c58 ?k58 ?a59 ?l59 ?c59 ?k59 ?a60 ?l60 ?c60 ?k60 ?a61 ?l61 ?c61 ?k61 ?a62 ?l62 ?c62 ?k62 ?a63 ?l63 ?c63 ?k63 ?a64 ?l64 ?c64 ?k64 ?a65 ?l65 ?c65 ?k65 ?a66 ?l66 ?c66 ?k66 ?a67 ?l67 ?c67 ?k67 ?a68 ?l68 ?c68 ?k68 ?a69 ?l69 ?c69 ?k69 ?a70 ?l70 ?c70 ?k70 ?z_abs ?z_all ?z_bool ?z_dict ?z_divmod ?z_int ?z_isinstance ?z_len ?z_list ?z_max ?z_min ?z_range ?z_set ?z_sorted ?z_str ?z_tuple ?z_zip ?z_gcd ?z_MOST_LETTERS ?z_MOST_KETTLES ?z_MOST_MOULDS ?z_MOST_ROOM ?z_MOST_FIRE ?z_MOST_MARK_BOTTOM ?z_MOST_DRIP_BOTTOM ?z_MOST_BOTTOM ?z_VAT ?y_BoilError ?y_NoMould ?y_NoRoom ?y_NoShare ?y_Empty ?y_Cured ?y_NotCured ?xL_NoMould ?xsa_NoMould ?xex_NoMould ?xty_NoMould ?xk_NoMould ?xi_NoMould ?xti_NoMould ?xl_NoMould ?xc_NoMould ?xki_NoMould ?ecl_NoMould ?ega_NoMould ?egg_NoMould ?ecs_NoMould ?ege_NoMould ?etk_NoMould ?eob_NoMould ?edi_NoMould ?efw_NoMould ?ern_NoMould ?efc_NoMould ?efl_NoMould ?xL_NoRoom ?xsa_NoRoom ?xex_NoRoom ?xty_NoRoom ?xk_NoRoom ?xi_NoRoom ?xti_NoRoom ?xl_NoRoom ?xc_NoRoom ?xki_NoRoom ?ecl_NoRoom ?ega_NoRoom ?egg_NoRoom ?ecs_NoRoom ?ege_NoRoom ?etk_NoRoom ?eob_NoRoom ?edi_NoRoom ?efw_NoRoom ?ern_NoRoom ?efc_NoRoom ?efl_NoRoom ?xL_NoShare ?xsa_NoShare ?xex_NoShare ?xty_NoShare ?xk_NoShare ?xi_NoShare ?xti_NoShare ?xl_NoShare ?xc_NoShare ?xki_NoShare ?ecl_NoShare ?ega_NoShare ?egg_NoShare ?ecs_NoShare ?ege_NoShare ?etk_NoShare ?eob_NoShare ?edi_NoShare ?efw_NoShare ?ern_NoShare ?efc_NoShare ?efl_NoShare ?xL_Empty ?xsa_Empty ?xex_Empty ?xty_Empty ?xk_Empty ?xi_Empty ?xti_Empty ?xl_Empty ?xc_Empty ?xki_Empty ?ecl_Empty ?ega_Empty ?egg_Empty ?ecs_Empty ?ege_Empty ?etk_Empty ?eob_Empty ?edi_Empty ?efw_Empty ?ern_Empty ?efc_Empty ?efl_Empty ?xL_Cured ?xsa_Cured ?xex_Cured ?xty_Cured ?xk_Cured ?xi_Cured ?xti_Cured ?xl_Cured ?xc_Cured ?xki_Cured ?ecl_Cured ?ega_Cured ?egg_Cured ?ecs_Cured ?ege_Cured ?etk_Cured ?eob_Cured ?edi_Cured ?efw_Cured ?ern_Cured ?efc_Cured ?efl_Cured ?xL_NotCured ?xsa_NotCured ?xex_NotCured ?xty_NotCured ?xk_NotCured ?xi_NotCured ?xti_NotCured ?xl_NotCured ?xc_NotCured ?xki_NotCured ?ecl_NotCured ?ega_NotCured ?egg_NotCured ?ecs_NotCured ?ege_NotCured ?etk_NotCured ?eob_NotCured ?edi_NotCured ?efw_NotCured ?ern_NotCured ?efc_NotCured ?efl_NotCured ?ic_BoilError ?it_BoilError ?ibx ?su_NoMould_BoilError ?su_NoRoom_BoilError ?su_NoShare_BoilError ?su_Empty_BoilError ?su_Cured_BoilError ?su_NotCured_BoilError ?su_NoMould_NoMould ?su_NoMould_NoRoom ?su_NoMould_NoShare ?su_NoMould_Empty ?su_NoMould_Cured ?su_NoMould_NotCured ?su_NoRoom_NoMould ?su_NoRoom_NoRoom ?su_NoRoom_NoShare ?su_NoRoom_Empty ?su_NoRoom_Cured ?su_NoRoom_NotCured ?su_NoShare_NoMould ?su_NoShare_NoRoom ?su_NoShare_NoShare ?su_NoShare_Empty ?su_NoShare_Cured ?su_NoShare_NotCured ?su_Empty_NoMould ?su_Empty_NoRoom ?su_Empty_NoShare ?su_Empty_Empty ?su_Empty_Cured ?su_Empty_NotCured ?su_Cured_NoMould ?su_Cured_NoRoom ?su_Cured_NoShare ?su_Cured_Empty ?su_Cured_Cured ?su_Cured_NotCured ?su_NotCured_NoMould ?su_NotCured_NoRoom ?su_NotCured_NoShare ?su_NotCured_Empty ?su_NotCured_Cured ?su_NotCured_NotCured ?z_NOUGHT ?l_NOUGHT ?z_ONE ?l_ONE ?z_NOTHING ?l_NOTHING ?lx_NOTHING ?ly_NOTHING
    (case g_Row => k_is)
    (case pg_Row => k_is)
    (case hd_Row => k_is)
    (case po_Row => k_is)
    (case sa_Row => k_is)
    (case mk_Row => k_is)
    (case kc_Row => k_is)
    (case nf_Row_kettles => k_is)
    (case nf_Row_moulds => k_is)
    (case g_SameRow => k_is)
    (case pg_SameRow => k_is)
    (case hd_SameRow => k_is)
    (case po_SameRow => k_is)
    (case sa_SameRow => k_is)
    (case mk_SameRow => k_is)
    (case kc_SameRow => k_is)
    (case nf_SameRow_kettles => k_is)
    (case nf_SameRow_moulds => k_is)
    (case g_Mould => k_is)
    (case pg_Mould => k_is)
    (case hd_Mould => k_is)
    (case po_Mould => k_is)
    (case sa_Mould => k_is)
    (case mk_Mould => k_is)
    (case kc_Mould => k_is)
    (case nf_Mould_room => k_is)
    (case nf_Mould_drip => k_is)
    (case nf_Mould_juice => k_is)
    (case nf_Mould_sugars => k_is)
    (case nf_Mould_cured => k_is)
    (case g_Moulds => k_is)
    (case pg_Moulds => k_is)
    (case hd_Moulds => k_is)
    (case po_Moulds => k_is)
    (case sa_Moulds => k_is)
    (case mk_Moulds => k_is)
    (case kc_Moulds => k_is)
    (case nf_Moulds__row => k_is)
    (case nf_Moulds__table => k_is)
    (case nf_Moulds__vat => k_is)
    (case nf_Moulds__loaves => k_is)
    (case a0 => k_is)
    (case l0 => k_is)
    (case c0 => k_is)
    (case k0 => k_is)
    (case i0 => k_is)
    (case a1 => k_is)
    (case l1 => k_is)
    (case c1 => k_is)
    (case k1 => k_is)
    (case i1 => k_is)
    (case a2 => k_is)
    (case l2 => k_is)
    (case c2 => k_is)
    (case k2 => k_is)
    (case i2 => k_is)
    (case a3 => k_is)
    (case l3 => k_is)
    (case c3 => k_is)
    (case k3 => k_is)
    (case i3 => k_is)
    (case a4 => k_is)
    (case l4 => k_is)
    (case c4 => k_is)
    (case k4 => k_is)
    (case i4 => k_is)
    (case a5 => k_is)
    (case l5 => k_is)
    (case c5 => k_is)
    (case k5 => k_is)
    (case i5 => k_is)
    (case a6 => k_is)
    (case l6 => k_is)
    (case c6 => k_is)
    (case k6 => k_is)
    (case i6 => k_is)
    (case a7 => k_is)
    (case l7 => k_is)
    (case c7 => k_is)
    (case k7 => k_is)
    (case i7 => k_is)
    (case a8 => k_is)
    (case l8 => k_is)
    (case c8 => k_is)
    (case k8 => k_is)
    (case i8 => k_is)
    (case a9 => k_is)
    (case l9 => k_is)
    (case c9 => k_is)
    (case k9 => k_is)
    (case i9 => k_is)
    (case a10 => k_is)
    (case l10 => k_is)
    (case c10 => k_is)
    (case k10 => k_is)
    (case i10 => k_is)
    (case a11 => k_is)
    (case l11 => k_is)
    (case c11 => k_is)
    (case k11 => k_is)
    (case i11 => k_is)
    (case a12 => k_is)
    (case l12 => k_is)
    (case c12 => k_is)
    (case k12 => k_is)
    (case i12 => k_is)
    (case a13 => k_is)
    (case l13 => k_is)
    (case c13 => k_is)
    (case k13 => k_is)
    (case i13 => k_is)
    (case a14 => k_is)
    (case l14 => k_is)
    (case c14 => k_is)
    (case k14 => k_is)
    (case i14 => k_is)
    (case a15 => k_is)
    (case l15 => k_is)
    (case c15 => k_is)
    (case k15 => k_is)
    (case i15 => k_is)
    (case a16 => k_is)
    (case l16 => k_is)
    (case c16 => k_is)
    (case k16 => k_is)
    (case i16 => k_is)
    (case a17 => k_is)
    (case l17 => k_is)
    (case c17 => k_is)
    (case k17 => k_is)
    (case i17 => k_is)
    (case a18 => k_is)
    (case l18 => k_is)
    (case c18 => k_is)
    (case k18 => k_is)
    (case i18 => k_is)
    (case a19 => k_is)
    (case l19 => k_is)
    (case c19 => k_is)
    (case k19 => k_is)
    (case i19 => k_is)
    (case a20 => k_is)
    (case l20 => k_is)
    (case c20 => k_is)
    (case k20 => k_is)
    (case a21 => k_is)
    (case l21 => k_is)
    (case c21 => k_is)
    (case k21 => k_is)
    (case a22 => k_is)
    (case l22 => k_is)
    (case c22 => k_is)
    (case k22 => k_is)
    (case a23 => k_is)
    (case l23 => k_is)
    (case c23 => k_is)
    (case k23 => k_is)
    (case a24 => k_is)
    (case l24 => k_is)
    (case c24 => k_is)
    (case k24 => k_is)
    (case a25 => k_is)
    (case l25 => k_is)
    (case c25 => k_is)
    (case k25 => k_is)
    (case a26 => k_is)
    (case l26 => k_is)
    (case c26 => k_is)
    (case k26 => k_is)
    (case a27 => k_is)
    (case l27 => k_is)
    (case c27 => k_is)
    (case k27 => k_is)
    (case a28 => k_is)
    (case l28 => k_is)
    (case c28 => k_is)
    (case k28 => k_is)
    (case a29 => k_is)
    (case l29 => k_is)
    (case c29 => k_is)
    (case k29 => k_is)
    (case a30 => k_is)
    (case l30 => k_is)
    (case c30 => k_is)
    (case k30 => k_is)
    (case a31 => k_is)
    (case l31 => k_is)
    (case c31 => k_is)
    (case k31 => k_is)
    (case a32 => k_is)
    (case l32 => k_is)
    (case c32 => k_is)
    (case k32 => k_is)
    (case a33 => k_is)
    (case l33 => k_is)
    (case c33 => k_is)
    (case k33 => k_is)
    (case q33 => k_is)
    (case p33 => first | rfl | (with_unfolding_all rfl))
    (case n33 => first | rfl | (with_unfolding_all rfl))
    (case a34 => k_is)
    (case l34 => k_is)
    (case c34 => k_is)
    (case k34 => k_is)
    (case a35 => k_is)
    (case l35 => k_is)
    (case c35 => k_is)
    (case k35 => k_is)
    (case a36 => k_is)
    (case l36 => k_is)
    (case c36 => k_is)
    (case k36 => k_is)
    (case a37 => k_is)
    (case l37 => k_is)
    (case c37 => k_is)
    (case k37 => k_is)
    (case q37 => k_is)
    (case p37 => first | rfl | (with_unfolding_all rfl))
    (case n37 => first | rfl | (with_unfolding_all rfl))
    (case a38 => k_is)
    (case l38 => k_is)
    (case c38 => k_is)
    (case k38 => k_is)
    (case q38 => k_is)
    (case p38 => first | rfl | (with_unfolding_all rfl))
    (case n38 => first | rfl | (with_unfolding_all rfl))
    (case a39 => k_is)
    (case l39 => k_is)
    (case c39 => k_is)
    (case k39 => k_is)
    (case a40 => k_is)
    (case l40 => k_is)
    (case c40 => k_is)
    (case k40 => k_is)
    (case a41 => k_is)
    (case l41 => k_is)
    (case c41 => k_is)
    (case k41 => k_is)
    (case a42 => k_is)
    (case l42 => k_is)
    (case c42 => k_is)
    (case k42 => k_is)
    (case a43 => k_is)
    (case l43 => k_is)
    (case c43 => k_is)
    (case k43 => k_is)
    (case a44 => k_is)
    (case l44 => k_is)
    (case c44 => k_is)
    (case k44 => k_is)
    (case a45 => k_is)
    (case l45 => k_is)
    (case c45 => k_is)
    (case k45 => k_is)
    (case a46 => k_is)
    (case l46 => k_is)
    (case c46 => k_is)
    (case k46 => k_is)
    (case a47 => k_is)
    (case l47 => k_is)
    (case c47 => k_is)
    (case k47 => k_is)
    (case a48 => k_is)
    (case l48 => k_is)
    (case c48 => k_is)
    (case k48 => k_is)
    (case a49 => k_is)
    (case l49 => k_is)
    (case c49 => k_is)
    (case k49 => k_is)
    (case a50 => k_is)
    (case l50 => k_is)
    (case c50 => k_is)
    (case k50 => k_is)
    (case a51 => k_is)
    (case l51 => k_is)
    (case c51 => k_is)
    (case k51 => k_is)
    (case a52 => k_is)
    (case l52 => k_is)
    (case c52 => k_is)
    (case k52 => k_is)
    (case a53 => k_is)
    (case l53 => k_is)
    (case c53 => k_is)
    (case k53 => k_is)
    (case a54 => k_is)
    (case l54 => k_is)
    (case c54 => k_is)
    (case k54 => k_is)
    (case a55 => k_is)
    (case l55 => k_is)
    (case c55 => k_is)
    (case k55 => k_is)
    (case a56 => k_is)
    (case l56 => k_is)
    (case c56 => k_is)
    (case k56 => k_is)
    (case a57 => k_is)
    (case l57 => k_is)
    (case c57 => k_is)
    (case k57 => k_is)
    (case a58 => k_is)
    (case l58 => k_is)
    (case c58 => k_is)
    (case k58 => k_is)
    (case a59 => k_is)
    (case l59 => k_is)
    (case c59 => k_is)
    (case k59 => k_is)
    (case a60 => k_is)
    (case l60 => k_is)
    (case c60 => k_is)
    (case k60 => k_is)
    (case a61 => k_is)
    (case l61 => k_is)
    (case c61 => k_is)
    (case k61 => k_is)
    (case a62 => k_is)
    (case l62 => k_is)
    (case c62 => k_is)
    (case k62 => k_is)
    (case a63 => k_is)
    (case l63 => k_is)
    (case c63 => k_is)
    (case k63 => k_is)
    (case a64 => k_is)
    (case l64 => k_is)
    (case c64 => k_is)
    (case k64 => k_is)
    (case a65 => k_is)
    (case l65 => k_is)
    (case c65 => k_is)
    (case k65 => k_is)
    (case a66 => k_is)
    (case l66 => k_is)
    (case c66 => k_is)
    (case k66 => k_is)
    (case a67 => k_is)
    (case l67 => k_is)
    (case c67 => k_is)
    (case k67 => k_is)
    (case a68 => k_is)
    (case l68 => k_is)
    (case c68 => k_is)
    (case k68 => k_is)
    (case a69 => k_is)
    (case l69 => k_is)
    (case c69 => k_is)
    (case k69 => k_is)
    (case a70 => k_is)
    (case l70 => k_is)
    (case c70 => k_is)
    (case k70 => k_is)
    (case z_abs => k_is)
    (case z_all => k_is)
    (case z_bool => k_is)
    (case z_dict => k_is)
    (case z_divmod => k_is)
    (case z_int => k_is)
    (case z_isinstance => k_is)
    (case z_len => k_is)
    (case z_list => k_is)
    (case z_max => k_is)
    (case z_min => k_is)
    (case z_range => k_is)
    (case z_set => k_is)
    (case z_sorted => k_is)
    (case z_str => k_is)
    (case z_tuple => k_is)
    (case z_zip => k_is)
    (case z_gcd => k_is)
    (case z_MOST_LETTERS => k_is)
    (case z_MOST_KETTLES => k_is)
    (case z_MOST_MOULDS => k_is)
    (case z_MOST_ROOM => k_is)
    (case z_MOST_FIRE => k_is)
    (case z_MOST_MARK_BOTTOM => k_is)
    (case z_MOST_DRIP_BOTTOM => k_is)
    (case z_MOST_BOTTOM => k_is)
    (case z_VAT => k_is)
    (case y_BoilError => k_is)
    (case y_NoMould => k_is)
    (case y_NoRoom => k_is)
    (case y_NoShare => k_is)
    (case y_Empty => k_is)
    (case y_Cured => k_is)
    (case y_NotCured => k_is)
    (case xL_NoMould => k_is)
    (case xsa_NoMould => k_is)
    (case xex_NoMould => k_is)
    (case xty_NoMould => k_is)
    (case xk_NoMould => k_is)
    (case xi_NoMould => k_is)
    (case xti_NoMould => k_is)
    (case xl_NoMould => k_is)
    (case xc_NoMould => k_is)
    (case xki_NoMould => k_is)
    (case ecl_NoMould => k_is)
    (case ega_NoMould => k_is)
    (case egg_NoMould => k_is)
    (case ecs_NoMould => k_is)
    (case ege_NoMould => k_is)
    (case etk_NoMould => k_is)
    (case eob_NoMould => k_is)
    (case edi_NoMould => k_is)
    (case efw_NoMould => k_is)
    (case ern_NoMould => k_is)
    (case efc_NoMould => k_is)
    (case efl_NoMould => k_is)
    (case xL_NoRoom => k_is)
    (case xsa_NoRoom => k_is)
    (case xex_NoRoom => k_is)
    (case xty_NoRoom => k_is)
    (case xk_NoRoom => k_is)
    (case xi_NoRoom => k_is)
    (case xti_NoRoom => k_is)
    (case xl_NoRoom => k_is)
    (case xc_NoRoom => k_is)
    (case xki_NoRoom => k_is)
    (case ecl_NoRoom => k_is)
    (case ega_NoRoom => k_is)
    (case egg_NoRoom => k_is)
    (case ecs_NoRoom => k_is)
    (case ege_NoRoom => k_is)
    (case etk_NoRoom => k_is)
    (case eob_NoRoom => k_is)
    (case edi_NoRoom => k_is)
    (case efw_NoRoom => k_is)
    (case ern_NoRoom => k_is)
    (case efc_NoRoom => k_is)
    (case efl_NoRoom => k_is)
    (case xL_NoShare => k_is)
    (case xsa_NoShare => k_is)
    (case xex_NoShare => k_is)
    (case xty_NoShare => k_is)
    (case xk_NoShare => k_is)
    (case xi_NoShare => k_is)
    (case xti_NoShare => k_is)
    (case xl_NoShare => k_is)
    (case xc_NoShare => k_is)
    (case xki_NoShare => k_is)
    (case ecl_NoShare => k_is)
    (case ega_NoShare => k_is)
    (case egg_NoShare => k_is)
    (case ecs_NoShare => k_is)
    (case ege_NoShare => k_is)
    (case etk_NoShare => k_is)
    (case eob_NoShare => k_is)
    (case edi_NoShare => k_is)
    (case efw_NoShare => k_is)
    (case ern_NoShare => k_is)
    (case efc_NoShare => k_is)
    (case efl_NoShare => k_is)
    (case xL_Empty => k_is)
    (case xsa_Empty => k_is)
    (case xex_Empty => k_is)
    (case xty_Empty => k_is)
    (case xk_Empty => k_is)
    (case xi_Empty => k_is)
    (case xti_Empty => k_is)
    (case xl_Empty => k_is)
    (case xc_Empty => k_is)
    (case xki_Empty => k_is)
    (case ecl_Empty => k_is)
    (case ega_Empty => k_is)
    (case egg_Empty => k_is)
    (case ecs_Empty => k_is)
    (case ege_Empty => k_is)
    (case etk_Empty => k_is)
    (case eob_Empty => k_is)
    (case edi_Empty => k_is)
    (case efw_Empty => k_is)
    (case ern_Empty => k_is)
    (case efc_Empty => k_is)
    (case efl_Empty => k_is)
    (case xL_Cured => k_is)
    (case xsa_Cured => k_is)
    (case xex_Cured => k_is)
    (case xty_Cured => k_is)
    (case xk_Cured => k_is)
    (case xi_Cured => k_is)
    (case xti_Cured => k_is)
    (case xl_Cured => k_is)
    (case xc_Cured => k_is)
    (case xki_Cured => k_is)
    (case ecl_Cured => k_is)
    (case ega_Cured => k_is)
    (case egg_Cured => k_is)
    (case ecs_Cured => k_is)
    (case ege_Cured => k_is)
    (case etk_Cured => k_is)
    (case eob_Cured => k_is)
    (case edi_Cured => k_is)
    (case efw_Cured => k_is)
    (case ern_Cured => k_is)
    (case efc_Cured => k_is)
    (case efl_Cured => k_is)
    (case xL_NotCured => k_is)
    (case xsa_NotCured => k_is)
    (case xex_NotCured => k_is)
    (case xty_NotCured => k_is)
    (case xk_NotCured => k_is)
    (case xi_NotCured => k_is)
    (case xti_NotCured => k_is)
    (case xl_NotCured => k_is)
    (case xc_NotCured => k_is)
    (case xki_NotCured => k_is)
    (case ecl_NotCured => k_is)
    (case ega_NotCured => k_is)
    (case egg_NotCured => k_is)
    (case ecs_NotCured => k_is)
    (case ege_NotCured => k_is)
    (case etk_NotCured => k_is)
    (case eob_NotCured => k_is)
    (case edi_NotCured => k_is)
    (case efw_NotCured => k_is)
    (case ern_NotCured => k_is)
    (case efc_NotCured => k_is)
    (case efl_NotCured => k_is)
    (case ic_BoilError => k_is)
    (case it_BoilError => k_is)
    (case ibx => k_is)
    (case su_NoMould_BoilError => k_is)
    (case su_NoRoom_BoilError => k_is)
    (case su_NoShare_BoilError => k_is)
    (case su_Empty_BoilError => k_is)
    (case su_Cured_BoilError => k_is)
    (case su_NotCured_BoilError => k_is)
    (case su_NoMould_NoMould => k_is)
    (case su_NoMould_NoRoom => k_is)
    (case su_NoMould_NoShare => k_is)
    (case su_NoMould_Empty => k_is)
    (case su_NoMould_Cured => k_is)
    (case su_NoMould_NotCured => k_is)
    (case su_NoRoom_NoMould => k_is)
    (case su_NoRoom_NoRoom => k_is)
    (case su_NoRoom_NoShare => k_is)
    (case su_NoRoom_Empty => k_is)
    (case su_NoRoom_Cured => k_is)
    (case su_NoRoom_NotCured => k_is)
    (case su_NoShare_NoMould => k_is)
    (case su_NoShare_NoRoom => k_is)
    (case su_NoShare_NoShare => k_is)
    (case su_NoShare_Empty => k_is)
    (case su_NoShare_Cured => k_is)
    (case su_NoShare_NotCured => k_is)
    (case su_Empty_NoMould => k_is)
    (case su_Empty_NoRoom => k_is)
    (case su_Empty_NoShare => k_is)
    (case su_Empty_Empty => k_is)
    (case su_Empty_Cured => k_is)
    (case su_Empty_NotCured => k_is)
    (case su_Cured_NoMould => k_is)
    (case su_Cured_NoRoom => k_is)
    (case su_Cured_NoShare => k_is)
    (case su_Cured_Empty => k_is)
    (case su_Cured_Cured => k_is)
    (case su_Cured_NotCured => k_is)
    (case su_NotCured_NoMould => k_is)
    (case su_NotCured_NoRoom => k_is)
    (case su_NotCured_NoShare => k_is)
    (case su_NotCured_Empty => k_is)
    (case su_NotCured_Cured => k_is)
    (case su_NotCured_NotCured => k_is)
    (case z_NOUGHT => k_is)
    (case l_NOUGHT => k_is)
    (case z_ONE => k_is)
    (case l_ONE => k_is)
    (case z_NOTHING => k_is)
    (case l_NOTHING => k_is)
    (case lx_NOTHING => k_is)
    (case ly_NOTHING => k_is)
#print axioms PySem.Challenge.cw_kettlerow_k34_loaves_knocked_out_holds
