import PyProof.Rows.All
import Wide.All
import OpenK.AllK
import Wide.FinOn
import HandS.ForMost
import HandS.Gcd
import HandS.Wide
import HandS.IsInst
import HandS.Zip
import HandS.More
import HandS.Style
import HandS.Rev
import HandS.MapJoin
import HandS.StrMore
import HandS.Replace
import HandS.Codes
import HandS.TryOnly
import KE.KExcIs
import HandS.ExcInit
import HandS.ExcField
import HandS.ExcIs
import HandS.WordsExc
import HandS.ExcOwn
import KE.KTypeName
import OpenK.KCls
import PySem.Challenge.RW_kettlerow_k05_texts_of_fractions_spoilt
set_option Elab.async false
set_option linter.all false
set_option maxRecDepth 100000
set_option maxHeartbeats 4000000
/-! ### own rules and words, of no law -/
namespace KR
open PySem PySem.Spec PyProof.Rows L2

/-- * of any two ints whose product is told to fit -/
theorem op_mulX {X : Cx} : OpR X (binaryOp .Mult) (rI IntMulOk fun i j => .int (i * j)) := opI fun _ _ _ _ _ _ _ hc q => mul_int q hc
/-- // by any divisor but 0, to some three thousand figures -/
def DivOk (_ j : Int) : Prop := j ≠ 0 ∧ j.natAbs.log2 < 9000
theorem op_fdivX {X : Cx} : OpR X (binaryOp .FloorDiv) (rI DivOk fun i j => .int (i.fdiv j)) := opI fun _ _ _ _ _ _ _ hc q => floordiv_int hc.1 q (.inl (PyProof.noPylong_of_log2 hc.2))
theorem mulL {i j : Int} (h : i.natAbs < 2 ^ 64) : IntMulOk i j := CMul.ok (.inl ⟨by omega, by omega⟩)
theorem mulR {i j : Int} (h : j.natAbs < 2 ^ 64) : IntMulOk i j := CMul.ok (.inr ⟨by omega, by omega⟩)
theorem mulW {i j : Int} {a b : Nat} (ha : i.natAbs < 2 ^ a) (hb : j.natAbs < 2 ^ b) (h0 : 0 < a) (h1 : 0 < b) (h : a + b ≤ 1000000) : IntMulOk i j := (wide_mul ha hb h0 h1 h).ok
theorem divOk {i j : Int} {b : Nat} (h : j ≠ 0) (hb : j.natAbs < 2 ^ b) (h0 : 0 < b) (h9 : b ≤ 9000) : DivOk i j := ⟨h, Nat.lt_of_lt_of_le (PySem.Flt.log2_lt_of h0 hb) h9⟩
theorem add_lt {i j : Int} {a : Nat} (ha : i.natAbs < 2 ^ a) (hb : j.natAbs < 2 ^ a) : (i + j).natAbs < 2 ^ (a + 1) := by
  rw [Nat.pow_succ]
  omega
theorem sub_lt {i j : Int} {a : Nat} (ha : i.natAbs < 2 ^ a) (hb : j.natAbs < 2 ^ a) : (i - j).natAbs < 2 ^ (a + 1) := by
  rw [Nat.pow_succ]
  omega
theorem lt_up {i : Int} {a b : Nat} (ha : i.natAbs < 2 ^ a) (h : a ≤ b) : i.natAbs < 2 ^ b := Nat.lt_of_lt_of_le ha (Nat.pow_le_pow_right (by decide) h)
theorem b40 {n : Nat} (h : n < 10 ^ 40) : n < 2 ^ 200 := Nat.lt_trans h (by decide)
theorem b41 {n : Nat} (h : n ≤ 10 ^ 41) : n < 2 ^ 200 := Nat.lt_of_le_of_lt h (by decide)
theorem bit_lt {c : Prop} [Decidable c] : (if c then (1 : Int) else 0).natAbs < 2 ^ 64 := by split <;> decide
theorem bit_nn {c : Prop} [Decidable c] : (0 : Int) ≤ (if c then (1 : Int) else 0) := by split <;> decide
theorem bit_or {c : Prop} [Decidable c] : (if c then (1 : Int) else 0) = 0 ∨ (if c then (1 : Int) else 0) = 1 := by split <;> simp
theorem small {n : Nat} (h : n ≤ 100000) : n ≤ sizeLine := Nat.le_trans h (by decide)
theorem small' {n : Nat} (h : n < 100000) : n < sizeLine := Nat.lt_of_lt_of_le h (by decide)

/-! the heap but for one object that is written -/
/-- all that was tracked but p is as it was -/
def Fr (p : Addr) (H H' : Hp) : Prop := ∀ b o, b ≠ p → H b = some o → H' b = some o
theorem Fr.refl {p : Addr} {H : Hp} : Fr p H H := fun _ _ _ h => h
theorem Fr.trans {p : Addr} {H H1 H2 : Hp} (a : Fr p H H1) (b : Fr p H1 H2) : Fr p H H2 := fun c o n h => b c o n (a c o n h)
theorem Fr.of {p : Addr} {H H1 : Hp} (a : Same H H1) : Fr p H H1 := fun c o _ h => a c o h
theorem same_new {H : Hp} {p : Addr} {o : HO} (h : H p = none) : Same H (upd H p o) := fun b x e => by
  rw [upd_ne (ne_of_none e h)]
  exact e
theorem Fr.new {p q : Addr} {H H1 : Hp} {o : HO} (a : Fr p H H1) (h : H1 q = none) : Fr p H (upd H1 q o) := a.trans (.of (same_new h))
theorem Fr.put {p : Addr} {H H1 : Hp} {o : HO} (a : Fr p H H1) : Fr p H (upd H1 p o) := fun c x n h => by
  rw [upd_ne n]
  exact a c x n h
theorem Fr.put' {p q : Addr} {H H1 : Hp} {o : HO} (a : Fr p H H1) (h : H q = none) : Fr p H (upd H1 q o) := fun c x n e => by
  rw [upd_ne (ne_of_none e h)]
  exact a c x n e
/-- what is new there was new ahead of it, if the written one stands -/
theorem Fr.free {p q : Addr} {H H1 : Hp} {o : HO} (a : Fr p H H1) (hp : H1 p = some o) (h : H1 q = none) : H q = none := by
  cases e : H q with
  | none => rfl
  | some u =>
    have n : q ≠ p := fun z => by
      rw [z, hp] at h
      cases h
    rw [a q u n e] at h
    cases h

/-! a reading may be asked for more than is wanted; displays whose new heap is a letter -/
def clA (t : TA) : TA := fun σ H Q => ∃ Q0 : List V → Hp → Prop, (∀ xs H1, Q0 xs H1 → Q xs H1) ∧ t σ H Q0
theorem pa_cl {X : Cx} {es : List Expr} {t : TA} (h : PA X es t) : PA X es (clA t) := ⟨fun pos pins s σ H Q I ⟨Q0, m, q⟩ =>
  thn (h.run pos pins s σ H Q0 I q) fun us s1 ⟨xs, H1, I1, r, z⟩ => ⟨xs, H1, I1, r, m _ _ z⟩⟩
def tTupI (t : TA) : TE := fun σ H Q => t σ H fun xs H1 => Nat.ble xs.length 100000 = true ∧ ∀ p H', Same H1 H' → H1 p = none → H' p = some (.tup xs) → Q (.ref p) H'
def tLstI (t : TA) : TE := fun σ H Q => t σ H fun xs H1 => Nat.ble xs.length 100000 = true ∧ ∀ p H', Same H1 H' → H1 p = none → H' p = some (.lst xs) → Q (.ref p) H'
theorem pe_tupI {X : Cx} {es : List Expr} {k : Nat} {pos : Pos} {t : TA} (h : PA X es t) : PE X (.Tuple es k pos) (tTupI t) := ⟨fun pins s σ H Q I q =>
  (pe_tup (pa_cl h)).run pins s σ H Q I ⟨_, fun _ _ ⟨z, w⟩ => ⟨small (Nat.le_of_ble_eq_true z), fun p hp => w p _ (same_new hp) hp upd_same⟩, q⟩⟩
theorem pe_lstI {X : Cx} {es : List Expr} {pos : Pos} {t : TA} (h : PA X es t) : PE X (.List es pos) (tLstI t) := ⟨fun pins s σ H Q I q =>
  (pe_lst (pa_cl h)).run pins s σ H Q I ⟨_, fun _ _ ⟨z, w⟩ => ⟨small (Nat.le_of_ble_eq_true z), fun p hp => w p _ (same_new hp) hp upd_same⟩, q⟩⟩
/-- ways that join behind a statement: R is what they come to -/
def tJ (t : TS) : TS := fun D σ H => ∃ R : L2.St → Hp → Prop, (∀ σ' H', R σ' H' → D.nx σ' H') ∧ t { D with nx := R } σ H
theorem ps_J {X : Cx} {st : Stmt} {t : TS} (h : PS X st t) : PS X st (tJ t) := ⟨fun pins s σ H D I ⟨R, m, q⟩ => thn (h.run pins s σ H { D with nx := R } I q) fun f s1 z =>
  match f, z with
  | .next, ⟨σ', H', J, r⟩ => ⟨σ', H', J, m _ _ r⟩
  | .ret _, z => z
  | .brk, z => z
  | .cont, z => z⟩
theorem ite_bT {b : Bool} {A B : Prop} (h : b = true) (q : A) : if b = true then A else B := by
  rw [if_pos h]
  exact q
theorem ite_bF {b : Bool} {A B : Prop} (h : b = false) (q : B) : if b = true then A else B := by
  rw [if_neg (by rw [h]; exact Bool.false_ne_true)]
  exact q
theorem ite_iT {i j : Int} {A B : Prop} (h : i = j) (q : A) : if decide (V.int i = V.int j) = true then A else B := by
  rw [if_pos (decide_eq_true (congrArg V.int h))]
  exact q
theorem ite_iF {i j : Int} {A B : Prop} (h : i ≠ j) (q : B) : if decide (V.int i = V.int j) = true then A else B := by
  rw [if_neg (by rw [decide_eq_false fun z => h (V.int.inj z)]; exact Bool.false_ne_true)]
  exact q
theorem ite_nT {i j : Int} {A B : Prop} (h : i ≠ j) (q : A) : if (!decide (V.int i = V.int j)) = true then A else B := by
  rw [if_pos (by rw [decide_eq_false fun z => h (V.int.inj z)] <;> rfl)]
  exact q
theorem ite_nF {i j : Int} {A B : Prop} (h : i = j) (q : B) : if (!decide (V.int i = V.int j)) = true then A else B := by
  rw [if_neg (by rw [decide_eq_true (congrArg V.int h)]; exact Bool.false_ne_true)]
  exact q
/-- the law's box of draws: n is more than have been mixed -/
def BoxAt (H : Hp) (p : Addr) (n : Nat) : Prop := ∃ a b c : Int, H p = some (.lst [.int a, .int b, .int c]) ∧ 0 ≤ a ∧ 0 ≤ b ∧ b < 2 ^ 62 ∧ 0 ≤ c ∧ c ≤ (n : Int)
theorem BoxAt.mono {H : Hp} {p : Addr} {n m : Nat} (h : BoxAt H p n) (le : n ≤ m) : BoxAt H p m := by
  obtain ⟨a, b, c, h1, h2, h3, h4, h5, h6⟩ := h
  exact ⟨a, b, c, h1, h2, h3, h4, h5, by omega⟩
theorem BoxAt.same {H H' : Hp} {p : Addr} {n : Nat} (h : BoxAt H p n) (s : Same H H') : BoxAt H' p n := by
  obtain ⟨a, b, c, h1, h2⟩ := h
  exact ⟨a, b, c, s _ _ h1, h2⟩
theorem BoxAt.ne {H : Hp} {p q : Addr} {n : Nat} {xs : List V} (h : BoxAt H p n) (t : H q = some (.tup xs)) : q ≠ p := by
  obtain ⟨a, b, c, h1, _⟩ := h
  exact ne_of t h1 (by intro z; cases z)
theorem BoxAt.some {H : Hp} {p : Addr} {n : Nat} (h : BoxAt H p n) : ∃ o, H p = some o := by
  obtain ⟨a, b, c, h1, _⟩ := h
  exact ⟨_, h1⟩
/-- a tuple stays -/
theorem Fr.tup {p q : Addr} {H H1 : Hp} {n : Nat} {xs : List V} (a : Fr p H H1) (hb : BoxAt H p n) (t : H q = some (.tup xs)) : H1 q = some (.tup xs) := a q _ (hb.ne t) t
/-- a pair of ints -/
def PrAt (H : Hp) (q : Addr) (t b : Int) : Prop := H q = some (.tup [.int t, .int b])
theorem at0 {x : V} {xs : List V} : atI (x :: xs) 0 = some x := atI_nat (j := 0) rfl
theorem at1 {x y : V} {xs : List V} : atI (x :: y :: xs) 1 = some y := atI_nat (j := 1) rfl
theorem at2 {x y z : V} {xs : List V} : atI (x :: y :: z :: xs) 2 = some z := atI_nat (j := 2) rfl

/-! fractions -/
/-- the law's own lowest terms -/
def low (t b : Int) : Int × Int := (t / (Nat.gcd t.natAbs b.natAbs : Nat) * (if b < 0 then -1 else 1), (b.natAbs : Int) / (Nat.gcd t.natAbs b.natAbs : Nat))
structure IsLow (t b : Int) : Prop where
  pos : 0 < b
  cop : Nat.gcd t.natAbs b.natAbs = 1
theorem dvd_mul {a b : Int} (h : a ∣ b) : a * (b / a) = b := Int.mul_ediv_cancel' h
theorem low_facts (t b : Int) (hb : b ≠ 0) : IsLow (low t b).1 (low t b).2 ∧ t * (low t b).2 = (low t b).1 * b := by
  have hg : 0 < Nat.gcd t.natAbs b.natAbs := Nat.gcd_pos_of_pos_right _ (by omega)
  generalize e : Nat.gcd t.natAbs b.natAbs = g at hg
  have d1 : g ∣ t.natAbs := e ▸ Nat.gcd_dvd_left _ _
  have d2 : g ∣ b.natAbs := e ▸ Nat.gcd_dvd_right _ _
  obtain ⟨x, hx⟩ := d1
  obtain ⟨y, hy⟩ := d2
  have hc : Nat.gcd x y = 1 := by
    rw [hx, hy, Nat.gcd_mul_left] at e
    exact Nat.eq_of_mul_eq_mul_left hg (by rw [e, Nat.mul_one])
  have hy0 : 0 < y := by
    rcases Nat.eq_zero_or_pos y with z | z
    · rw [z, Nat.mul_zero] at hy
      omega
    · exact z
  have h2 : (low t b).2 = (y : Int) := by
    show (b.natAbs : Int) / (Nat.gcd t.natAbs b.natAbs : Nat) = (y : Int)
    rw [e, hy, Int.natCast_mul]
    exact Int.mul_ediv_cancel_left _ (by omega)
  have ht : t = (g : Int) * x ∨ t = -((g : Int) * x) := by
    have q : (t.natAbs : Int) = (g : Int) * x := by rw [hx, Int.natCast_mul]
    omega
  have hbb : (b.natAbs : Int) = (g : Int) * y := by rw [hy, Int.natCast_mul]
  have h1 : (low t b).1 = (t / (g : Int)) * (if b < 0 then -1 else 1) := by
    show t / (Nat.gcd t.natAbs b.natAbs : Nat) * (if b < 0 then -1 else 1) = _
    rw [e]
  have h3 : t / (g : Int) = x ∨ t / (g : Int) = -(x : Int) := by
    rcases ht with q | q
    · left
      rw [q]
      exact Int.mul_ediv_cancel_left _ (by omega)
    · right
      rw [q, ← Int.mul_neg]
      exact Int.mul_ediv_cancel_left _ (by omega)
  have h4 : (g : Int) * (t / (g : Int)) = t := dvd_mul (by
    rcases ht with q | q
    · exact ⟨x, q⟩
    · exact ⟨-x, by rw [q, Int.mul_neg]⟩)
  refine ⟨⟨by rw [h2]; omega, ?_⟩, ?_⟩
  · rw [h2, h1]
    have q : ((t / (g : Int)) * (if b < 0 then -1 else 1)).natAbs = x := by
      split <;> rcases h3 with z | z <;> rw [z] <;> omega
    rw [q]
    exact hc
  · rw [h2, h1]
    by_cases c : b < 0
    · rw [if_pos c]
      have q : b = -((g : Int) * y) := by omega
      grind
    · rw [if_neg c]
      have q : b = (g : Int) * y := by omega
      grind
theorem low_pos (t b : Int) (hb : b ≠ 0) : 0 < (low t b).2 := (low_facts t b hb).1.pos
/-- two fractions in lowest terms that are alike across are one -/
theorem isLow_uniq {x y u v : Int} (h : IsLow x y) (k : IsLow u v) (e : x * v = u * y) : x = u ∧ y = v := by
  have h1 := h.pos
  have k1 := k.pos
  have e1 : x.natAbs * v.natAbs = u.natAbs * y.natAbs := by rw [← Int.natAbs_mul, ← Int.natAbs_mul, e]
  have d1 : y.natAbs ∣ v.natAbs := (Nat.Coprime.symm h.cop).dvd_of_dvd_mul_left (by rw [e1]; exact Nat.dvd_mul_left _ _)
  have d2 : v.natAbs ∣ y.natAbs := (Nat.Coprime.symm k.cop).dvd_of_dvd_mul_left (by rw [← e1]; exact Nat.dvd_mul_left _ _)
  have e2 : y.natAbs = v.natAbs := Nat.dvd_antisymm d1 d2
  have e3 : y = v := by omega
  subst e3
  exact ⟨Int.eq_of_mul_eq_mul_right (by omega) e, rfl⟩
theorem low_eq {t b x y : Int} (hb : b ≠ 0) (h : IsLow x y) (e : t * y = x * b) : low t b = (x, y) := by
  obtain ⟨h1, h2⟩ := low_facts t b hb
  have q : (low t b).1 * y = x * (low t b).2 := by
    have z : b * ((low t b).1 * y) = b * (x * (low t b).2) := by grind
    exact Int.eq_of_mul_eq_mul_left hb z
  obtain ⟨a1, a2⟩ := isLow_uniq h1 h q
  exact Prod.ext a1 a2
theorem low_id {t b : Int} (h : IsLow t b) : low t b = (t, b) := low_eq (by have := h.pos; omega) h rfl
theorem low_le (t b : Int) : (low t b).1.natAbs ≤ t.natAbs ∧ (low t b).2.natAbs ≤ b.natAbs := by
  generalize e : Nat.gcd t.natAbs b.natAbs = g
  have h1 : (low t b).1 = (t / (g : Int)) * (if b < 0 then -1 else 1) := by
    show t / (Nat.gcd t.natAbs b.natAbs : Nat) * (if b < 0 then -1 else 1) = _
    rw [e]
  have h2 : (low t b).2 = (b.natAbs : Int) / (g : Int) := by
    show (b.natAbs : Int) / (Nat.gcd t.natAbs b.natAbs : Nat) = _
    rw [e]
  have d1 : (g : Int) ∣ t := e ▸ Int.ofNat_dvd_left.mpr (Nat.gcd_dvd_left _ _)
  constructor
  · rw [h1]
    have q : (t / (g : Int) * (if b < 0 then -1 else 1)).natAbs = (t / (g : Int)).natAbs := by
      split <;> omega
    rw [q]
    obtain ⟨z, rfl⟩ := d1
    by_cases c : (g : Int) = 0
    · rw [c, Int.zero_mul, Int.zero_ediv]
      omega
    · rw [Int.mul_ediv_cancel_left _ c, Int.natAbs_mul]
      exact Nat.le_mul_of_pos_left _ (by omega)
  · rw [h2, ← Int.natCast_ediv, Int.natAbs_natCast]
    exact Nat.div_le_self _ _
theorem low_lt {t b : Int} {n : Nat} (h1 : t.natAbs < 2 ^ n) (h2 : b.natAbs < 2 ^ n) : (low t b).1.natAbs < 2 ^ n ∧ (low t b).2.natAbs < 2 ^ n :=
  ⟨Nat.lt_of_le_of_lt (low_le t b).1 h1, Nat.lt_of_le_of_lt (low_le t b).2 h2⟩
/-- a fraction in lowest terms, of fewer than sixty figures -/
structure FrAt (H : Hp) (x : Addr) (a b : Int) : Prop where
  at_ : H x = some (.tup [.int a, .int b])
  low : IsLow a b
  ta : a.natAbs < 2 ^ 200
  tb : b.natAbs < 2 ^ 200
theorem FrAt.same {H H' : Hp} {x : Addr} {a b : Int} (h : FrAt H x a b) (s : Same H H') : FrAt H' x a b := ⟨s _ _ h.at_, h.low, h.ta, h.tb⟩
theorem FrAt.fr {H H' : Hp} {x p : Addr} {a b : Int} {n : Nat} (h : FrAt H x a b) (B : BoxAt H p n) (f : Fr p H H') : FrAt H' x a b := ⟨f.tup B h.at_, h.low, h.ta, h.tb⟩
/-- a new pair of two numbers' lowest terms -/
def sp_low : Sp := fun vs H Q _ => ∃ t b : Int, vs = [.int t, .int b] ∧ b ≠ 0 ∧ t.natAbs < 2 ^ 2000 ∧ b.natAbs < 2 ^ 2000 ∧ ∀ p H', Same H H' → H p = none → H' p = some (.tup [.int (low t b).1, .int (low t b).2]) → Q (.ref p) H'
/-- two pairs in, low of what f and g say of them out -/
def sp_two (K : PySem.W.Frag) (f g : Int → Int → Int → Int → Int) : Sp := fun vs H Q _ => ∃ (x y : Addr) (a b c d : Int), vs = [.ref x, .ref y] ∧ SqT K H x [.int a, .int b] ∧ SqT K H y [.int c, .int d] ∧ g a b c d ≠ 0 ∧ a.natAbs < 2 ^ 900 ∧ b.natAbs < 2 ^ 900 ∧ c.natAbs < 2 ^ 900 ∧ d.natAbs < 2 ^ 900 ∧
  ∀ p H', Same H H' → H p = none → H' p = some (.tup [.int (low (f a b c d) (g a b c d)).1, .int (low (f a b c d) (g a b c d)).2]) → Q (.ref p) H'
/-- by a divisor turned about -/
theorem fdiv_neg {t g : Int} (h : g ∣ t) : t.fdiv (-g) = t / g * -1 := by
  obtain ⟨z, rfl⟩ := h
  by_cases c : g = 0
  · subst c
    simp
  · rw [Int.mul_ediv_cancel_left _ c, show g * z = (-g) * (-z) by grind, Int.mul_fdiv_cancel_left _ (by omega)]
    omega

/-! data of the law's own making, n deep -/
theorem Same.put {H0 H : Hp} {D : Addr} {o : HO} (s : Same H0 H) (h : H0 D = none) : Same H0 (upd H D o) := fun b u e => by
  rw [upd_ne (ne_of_none e h)]
  exact s b u e
inductive Dt (H : Hp) : Nat → V → PyData → Prop
  | non (n : Nat) : Dt H (n + 1) .non .none
  | bl (n : Nat) (b : Bool) : Dt H (n + 1) (.bl b) (.bool b)
  | int (n : Nat) (i : Int) : Dt H (n + 1) (.int i) (.int i)
  | str (n : Nat) (x : Str) (ok : PyData.canLay0 (.str x) = true) : Dt H (n + 1) (.str x) (.str x)
  | lst {n : Nat} {a : Addr} {xs : List V} {ds : List PyData} : H a = some (.lst xs) → xs.length = ds.length → xs.length ≤ 100000 → (∀ (i : Nat) (x : V) (d : PyData), xs[i]? = some x → ds[i]? = some d → Dt H n x d) → Dt H (n + 1) (.ref a) (.list ds)
  | tup {n : Nat} {a : Addr} {xs : List V} {ds : List PyData} : H a = some (.tup xs) → xs.length = ds.length → xs.length ≤ 100000 → (∀ (i : Nat) (x : V) (d : PyData), xs[i]? = some x → ds[i]? = some d → Dt H n x d) → Dt H (n + 1) (.ref a) (.tuple ds)
theorem Dt.same {H H' : Hp} (s : Same H H') : ∀ {n : Nat} {v : V} {d : PyData}, Dt H n v d → Dt H' n v d := by
  intro n v d h
  induction h with
  | non n => exact .non n
  | bl n b => exact .bl n b
  | int n i => exact .int n i
  | str n x ok => exact .str n x ok
  | lst h1 h2 h3 _ ih => exact .lst (s _ _ h1) h2 h3 ih
  | tup h1 h2 h3 _ ih => exact .tup (s _ _ h1) h2 h3 ih
theorem Dt.up {H : Hp} {n m : Nat} {v : V} {d : PyData} (h : Dt H n v d) : n ≤ m → Dt H m v d := by
  intro le
  induction h generalizing m with
  | non n => obtain ⟨k, rfl⟩ : ∃ k, m = k + 1 := ⟨m - 1, by omega⟩; exact .non k
  | bl n b => obtain ⟨k, rfl⟩ : ∃ k, m = k + 1 := ⟨m - 1, by omega⟩; exact .bl k b
  | int n i => obtain ⟨k, rfl⟩ : ∃ k, m = k + 1 := ⟨m - 1, by omega⟩; exact .int k i
  | str n x ok => obtain ⟨k, rfl⟩ : ∃ k, m = k + 1 := ⟨m - 1, by omega⟩; exact .str k x ok
  | lst h1 h2 h3 _ ih => obtain ⟨k, rfl⟩ : ∃ k, m = k + 1 := ⟨m - 1, by omega⟩; exact .lst h1 h2 h3 fun i x d a b => ih i x d a b (by omega)
  | tup h1 h2 h3 _ ih => obtain ⟨k, rfl⟩ : ∃ k, m = k + 1 := ⟨m - 1, by omega⟩; exact .tup h1 h2 h3 fun i x d a b => ih i x d a b (by omega)
theorem Dt.tup2 {H : Hp} {n : Nat} {a : Addr} {x y : V} {d e : PyData} (h : H a = some (.tup [x, y])) (h1 : Dt H n x d) (h2 : Dt H n y e) : Dt H (n + 1) (.ref a) (.tuple [d, e]) :=
  .tup h rfl (by show 2 ≤ 100000; decide) fun i u v hu hv => match i, hu, hv with
    | 0, hu, hv => by cases hu; cases hv; exact h1
    | 1, hu, hv => by cases hu; cases hv; exact h2
    | i + 2, hu, _ => by simp at hu
theorem Dt.pair {H : Hp} {a : Addr} {t b : Int} (h : H a = some (.tup [.int t, .int b])) : Dt H 2 (.ref a) (.tuple [.int t, .int b]) := .tup2 h (.int 0 t) (.int 0 b)
theorem Dt.lst2 {H : Hp} {n : Nat} {a : Addr} {x y : V} {d e : PyData} (h : H a = some (.lst [x, y])) (h1 : Dt H n x d) (h2 : Dt H n y e) : Dt H (n + 1) (.ref a) (.list [d, e]) :=
  .lst h rfl (by show 2 ≤ 100000; decide) fun i u v hu hv => match i, hu, hv with
    | 0, hu, hv => by cases hu; cases hv; exact h1
    | 1, hu, hv => by cases hu; cases hv; exact h2
    | i + 2, hu, _ => by simp at hu
theorem Dt.lst3 {H : Hp} {n : Nat} {a : Addr} {x y z : V} {d e f : PyData} (h : H a = some (.lst [x, y, z])) (h1 : Dt H n x d) (h2 : Dt H n y e) (h3 : Dt H n z f) : Dt H (n + 1) (.ref a) (.list [d, e, f]) :=
  .lst h rfl (by show 3 ≤ 100000; decide) fun i u v hu hv => match i, hu, hv with
    | 0, hu, hv => by cases hu; cases hv; exact h1
    | 1, hu, hv => by cases hu; cases hv; exact h2
    | 2, hu, hv => by cases hu; cases hv; exact h3
    | i + 3, hu, _ => by simp at hu
/-- a comprehension over pairs: J hands out a new tuple of px i and py i at each of n turns, while St stands -/
theorem lc_pair {J : It} {n : Nat} {St : Hp → Prop} {px py : Nat → V} (hgo : ∀ i H, i < n → St H → J.go i H) (hst : ∀ H, St H → J.stop n H)
    (hy : ∀ i H v H', i < n → St H → J.yld i H v H' → ∃ T, v = .ref T ∧ H T = none ∧ H' = upd H T (.tup [px i, py i]))
    {g : TG} {tt : TT} {te : TE} {vs : List Nat} {σ : L2.St} {H1 : Hp} {D : Addr} {Qd : Hp → Prop} (Pv : Nat → Hp → Prop) (h0 : Pv 0 (upd H1 D (.lst []))) (hq : ∀ i H, i ≤ n → Pv i H → St H)
    (hs : ∀ i T H, i < n → Pv i H → H T = none → g (.ref T) (wipe σ vs) (upd H T (.tup [px i, py i])) fun σ2 H2 => wipe σ2 vs = wipe σ vs ∧ tt σ2 H2 fun b H3 =>
      if b = true then te σ2 H3 fun y H4 => ∃ acc, H4 D = some (.lst acc) ∧ acc.length < sizeLine ∧ Pv (i + 1) (upd H4 D (.lst (acc ++ [y]))) else Pv (i + 1) H3) (hd : ∀ H, Pv n H → Qd H) :
    ∃ W : Nat → Nat → Hp → Prop, (∃ m, W 0 m (upd H1 D (.lst []))) ∧ ∀ i m H, W i m H →
      (J.stop i H ∧ Qd H) ∨ (J.go i H ∧ ∃ Nx : Hp → Prop, (∀ H', Nx H' → ∃ m', m' < m ∧ W (i + 1) m' H') ∧ ∀ x H', J.yld i H x H' → g x (wipe σ vs) H' fun σ2 H2 => wipe σ2 vs = wipe σ vs ∧ tt σ2 H2 fun b H3 =>
        if b = true then te σ2 H3 fun y H4 => ∃ acc, H4 D = some (.lst acc) ∧ acc.length < sizeLine ∧ Nx (upd H4 D (.lst (acc ++ [y]))) else Nx H3) := by
  refine ⟨fun i m H => i + m = n ∧ Pv i H, ⟨n, by omega, h0⟩, fun i m H w => ?_⟩
  obtain ⟨e, p⟩ := w
  have q := hq i H (by omega) p
  rcases Nat.lt_or_ge i n with lt | ge
  · refine Or.inr ⟨hgo i H lt q, Pv (i + 1), fun H' p' => ⟨m - 1, by omega, by omega, p'⟩, fun x H' y => ?_⟩
    obtain ⟨T, rfl, nT, rfl⟩ := hy i H x H' lt q y
    exact hs i T H lt p nT
  · obtain rfl : i = n := by omega
    exact Or.inl ⟨hst H q, hd H p⟩
theorem zipL_go {K : PySem.W.Frag} {a b : Addr} {xs ys : List V} {n : Nat} (h1 : xs.length = n) (h2 : ys.length = n) {i : Nat} {H : Hp} (lt : i < n) (q : SqL K H a xs ∧ SqL K H b ys) : (Itz K a b).go i H :=
  ⟨xs, ys, _, _, q.1, q.2, List.getElem?_eq_getElem (by omega), List.getElem?_eq_getElem (by omega)⟩
theorem zipL_stop {K : PySem.W.Frag} {a b : Addr} {xs ys : List V} {n : Nat} (h1 : xs.length = n) {H : Hp} (q : SqL K H a xs ∧ SqL K H b ys) : (Itz K a b).stop n H := ⟨xs, ys, q.1, q.2, .inl (by omega)⟩
theorem zipL_yld {K : PySem.W.Frag} {a b : Addr} {xs ys : List V} {n : Nat} (h1 : xs.length = n) (h2 : ys.length = n) {i : Nat} {H H' : Hp} {v : V} (lt : i < n) (q : SqL K H a xs ∧ SqL K H b ys) (y : (Itz K a b).yld i H v H') :
    ∃ T, v = .ref T ∧ H T = none ∧ H' = upd H T (.tup [xs.getD i .non, ys.getD i .non]) := by
  obtain ⟨T, x, y, rfl, nT, rfl, f1, f2⟩ := y
  refine ⟨T, rfl, nT, ?_⟩
  rw [List.getD_eq_getElem?_getD, List.getD_eq_getElem?_getD, f1 _ q.1, f2 _ q.2] <;> rfl
theorem zipT_go {K : PySem.W.Frag} {a b : Addr} {xs ys : List V} {n : Nat} (h1 : xs.length = n) (h2 : ys.length = n) {i : Nat} {H : Hp} (lt : i < n) (q : SqT K H a xs ∧ SqT K H b ys) : (RZ.ItzT K a b).go i H :=
  ⟨xs, ys, _, _, q.1, q.2, List.getElem?_eq_getElem (by omega), List.getElem?_eq_getElem (by omega)⟩
theorem zipT_stop {K : PySem.W.Frag} {a b : Addr} {xs ys : List V} {n : Nat} (h1 : xs.length = n) {H : Hp} (q : SqT K H a xs ∧ SqT K H b ys) : (RZ.ItzT K a b).stop n H := ⟨xs, ys, q.1, q.2, .inl (by omega)⟩
theorem zipT_yld {K : PySem.W.Frag} {a b : Addr} {xs ys : List V} {n : Nat} (h1 : xs.length = n) (h2 : ys.length = n) {i : Nat} {H H' : Hp} {v : V} (lt : i < n) (q : SqT K H a xs ∧ SqT K H b ys) (y : (RZ.ItzT K a b).yld i H v H') :
    ∃ T, v = .ref T ∧ H T = none ∧ H' = upd H T (.tup [xs.getD i .non, ys.getD i .non]) := by
  obtain ⟨T, x, y, rfl, nT, rfl, f1, f2⟩ := y
  refine ⟨T, rfl, nT, ?_⟩
  rw [List.getD_eq_getElem?_getD, List.getD_eq_getElem?_getD, f1 _ q.1, f2 _ q.2] <;> rfl
theorem getD_of {xs : List V} {i : Nat} (h : i < xs.length) : xs[i]? = some (xs.getD i .non) := by
  rw [List.getD_eq_getElem?_getD, List.getElem?_eq_getElem h] <;> rfl
theorem yesT {σ : L2.St} {H : Hp} {A B : Hp → Prop} (h : A H) : tYes σ H fun b H3 => if b = true then A H3 else B H3 := iteT (A := A H) (B := B H) h
/-- True so often -/
theorem all_true (n : Nat) : (List.replicate n true).map V.bl = List.replicate n (V.bl true) ∧ (List.replicate n true).all id = true := by
  refine ⟨List.map_replicate, ?_⟩
  induction n with
  | zero => rfl
  | succ n ih => rw [List.replicate_succ, List.all_cons, ih] <;> rfl

/-- a def of the text, where it stands and how it is called -/
structure Def (K : PySem.W.Frag) (mg : Str → Option Value) (name : Str) (st : Stmt) (f : Addr) (fd : FuncData) (ps : List Str) : Prop where
  fn : Fun K name name st f fd
  mg : mg name = some (.ref f)
  b : Binds K fd ps []
/-! rules whose written part is a letter -/
section
variable {X : Cx} {K : PySem.W.Frag}
theorem ixL (h : X.K = K) : IxR X (rIxL K) := h ▸ ix_list
theorem ixT (h : X.K = K) : IxR X (rIxT K) := h ▸ ix_tup
theorem ixQ (h : X.K = K) : IxR X (rIx K) := h ▸ ix_seq
def rLenQ (K : PySem.W.Frag) : List V → Hp → VK → Prop := fun xs H Q => ∃ p ys, xs = [.ref p] ∧ (SqL K H p ys ∨ SqT K H p ys) ∧ Q (.int (ys.length : Nat)) H
theorem lenQ (h : X.K = K) : CallR X (.builtin "len") (rLenQ K) := h ▸ call_len_seq
def rLenA (K : PySem.W.Frag) : List V → Hp → VK → Prop := fun xs H Q => ∃ x n, xs = [x] ∧ LenV K x H n ∧ Q (.int (n : Nat)) H
theorem lenA (h : X.K = K) : CallR X (.builtin "len") (rLenA K) := h ▸ call_len
theorem isiK (h : X.K = K) : CallR X (.builtin "isinstance") (rIsi K) := h ▸ call_isi
theorem isiTK (h : X.K = K) : CallR X (.builtin "isinstance") (rIsiT K) := h ▸ call_isiT
theorem allK (h : X.K = K) (hc : X.calm = true) : CallR X (.builtin "all") (rAll K) := h ▸ cr_all hc
theorem anyK (h : X.K = K) (hc : X.calm = true) : CallR X (.builtin "any") (rAny K) := h ▸ cr_any hc
theorem sumK (h : X.K = K) (hc : X.calm = true) : CallR X (.builtin "sum") (rSum K) := h ▸ cr_sum hc
theorem eqDK (h : X.K = K) (hu : X.A.units + 64 < cLine) : OpR X (compareOp .Eq) (rEqD K) := h ▸ op_eqD hu
theorem neDK (h : X.K = K) (hu : X.A.units + 64 < cLine) : OpR X (compareOp .NotEq) (rNeD K) := h ▸ op_neD hu
theorem inQ (h : X.K = K) : OpR X (compareOp .In) (rIn K false) := h ▸ op_in_seq
theorem notInQ (h : X.K = K) : OpR X (compareOp .NotIn) (rIn K true) := h ▸ op_notIn_seq
theorem pi_listK {tg l : Expr} {tl : TE} (h : X.K = K) (hl : PE X l tl) : PI X tg l (iList K tl) := h ▸ pi_list hl
theorem pi_tupK {tg l : Expr} {tl : TE} (h : X.K = K) (hl : PE X l tl) : PI X tg l (iTup K tl) := h ▸ pi_tup hl
theorem pi_zipK {e e2 : Expr} {ta : TA} {p pos tpos : Pos} {elts : List Expr} {kk : Nat} (h : X.K = K) (hg : Gl X "zip") (hm : X.mg "zip" = none) (ha : PA X [e, e2] ta)
    (hs : starEach [e, e2] X.env = (false, eval e X.env) :: starEach [e2] X.env := by rfl) (hpl : (backTo pos (starEach [e2] X.env)).any (·.1) = false := by rfl) :
    PI X (.Tuple elts kk tpos) (.Call (.Name "zip" p) [e, e2] [] pos) (RZ.iZipA K ta) := h ▸ RZ.pi_zipA hg hm ha hs hpl
theorem pi_enumK {e : Expr} {ta : TA} {p pos tpos : Pos} {elts : List Expr} {kk : Nat} (h : X.K = K) (hg : Gl X "enumerate") (hm : X.mg "enumerate" = none) (ha : PA X [e] ta) (hs : starEach [e] X.env = [(false, eval e X.env)] := by rfl) :
    PI X (.Tuple elts kk tpos) (.Call (.Name "enumerate" p) [e] [] pos) (iEnum K ta) := h ▸ pi_enum hg hm ha hs
theorem pg_tupK {es : List Expr} {k : Nat} {pos : Pos} {t : TGs} {n : Nat} (h : X.K = K) (hc : X.calm = true) (ht : PGs X es t) (hn : (assignEach es X.env).length = n := by rfl) (hst : (assignEach es X.env).findIdx? (·.1) = none := by rfl) :
    PG X (.Tuple es k pos) (gTup K n t) := h ▸ pg_tup hc ht hn hst
/-- a new slice, a new list of what a thing holds -/
def rSlLI (K : PySem.W.Frag) : V → Option Int → Option Int → Hp → VK → Prop := fun x lo hi H Q => ∃ a xs, x = .ref a ∧ SqL K H a xs ∧ ∀ p H', Same H H' → H p = none → H' p = some (.lst (cutV xs lo hi)) → Q (.ref p) H'
theorem slL (h : X.K = K) : SlR X (rSlLI K) := fun pins s σ H x v vl vu lo hi sl Q I rx hs pl pu ⟨a, xs, e, q, k⟩ =>
  sl_list pins s σ H x v vl vu lo hi sl Q I rx hs pl pu ⟨a, xs, e, h ▸ q, fun p hp => k p _ (same_new hp) hp upd_same⟩
def rListI (K : PySem.W.Frag) : List V → Hp → VK → Prop := fun xs H Q => ∃ p ys, xs = [.ref p] ∧ (SqL K H p ys ∨ SqT K H p ys) ∧ ∀ l H', Same H H' → H l = none → H' l = some (.lst ys) → Q (.ref l) H'
theorem listI (h : X.K = K) : CallR X (.type "list") (rListI K) := fun pins s σ H xs us Q I r ⟨p, ys, e, q, k⟩ =>
  call_list_of pins s σ H xs us Q I r ⟨p, ys, e, h ▸ q, fun l hl => k l _ (same_new hl) hl upd_same⟩
end
/-! lists of fractions: addresses, tops, bottoms -/
abbrev Fq := Addr × Int × Int
def refs (l : List Fq) : List V := l.map fun z => V.ref z.1
def dat (z : Fq) : PyData := .tuple [.int z.2.1, .int z.2.2]
structure FqAt (H : Hp) (n : Nat) (z : Fq) : Prop where
  at_ : H z.1 = some (.tup [.int z.2.1, .int z.2.2])
  low : IsLow z.2.1 z.2.2
  ta : z.2.1.natAbs ≤ 10 ^ 41 + n
  tb : z.2.2.natAbs ≤ 10 ^ 41 + n
def FrL (H : Hp) (n : Nat) (l : List Fq) : Prop := ∀ z ∈ l, FqAt H n z
theorem FqAt.fr {H H' : Hp} {p : Addr} {n m k : Nat} {z : Fq} (h : FqAt H n z) (B : BoxAt H p m) (f : Fr p H H') (le : n ≤ k) : FqAt H' k z := ⟨f.tup B h.at_, h.low, by have := h.ta; omega, by have := h.tb; omega⟩
theorem FqAt.same {H H' : Hp} {n : Nat} {z : Fq} (h : FqAt H n z) (s : Same H H') : FqAt H' n z := ⟨s _ _ h.at_, h.low, h.ta, h.tb⟩
theorem FrL.fr {H H' : Hp} {p : Addr} {n m k : Nat} {l : List Fq} (h : FrL H n l) (B : BoxAt H p m) (f : Fr p H H') (le : n ≤ k) : FrL H' k l := fun z hz => (h z hz).fr B f le
theorem FrL.same {H H' : Hp} {n : Nat} {l : List Fq} (h : FrL H n l) (s : Same H H') : FrL H' n l := fun z hz => (h z hz).same s
theorem FqAt.wide {H : Hp} {n : Nat} {z : Fq} (h : FqAt H n z) (le : n ≤ 1000) : z.2.1.natAbs < 2 ^ 200 ∧ z.2.2.natAbs < 2 ^ 200 := by
  have h1 := h.ta
  have h2 := h.tb
  have e : 10 ^ 41 + 1000 < 2 ^ 200 := by decide
  omega
theorem refs_len (l : List Fq) : (refs l).length = l.length := List.length_map _
theorem refs_get {l : List Fq} {i : Nat} {z : Fq} (h : l[i]? = some z) : (refs l)[i]? = some (.ref z.1) := by
  unfold refs
  rw [List.getElem?_map, h] <;> rfl
theorem refs_of {l : List Fq} {i : Nat} {x : V} (h : (refs l)[i]? = some x) : ∃ z, l[i]? = some z ∧ x = .ref z.1 := by
  unfold refs at h
  rw [List.getElem?_map] at h
  cases e : l[i]? with
  | none =>
    rw [e] at h
    cases h
  | some z =>
    rw [e] at h
    exact ⟨z, rfl, (Option.some.inj h).symm⟩
theorem dp_pair {K : PySem.W.Frag} {H : Hp} {a : Addr} {t b : Int} (h : H a = some (.tup [.int t, .int b])) : Dp K H (.ref a) (.tuple [.int t, .int b]) := .tup (SqT.of h) (.cons (.int _) (.cons (.int _) .nil))
theorem FrL.dps {K : PySem.W.Frag} {H : Hp} {n : Nat} : ∀ {l : List Fq}, FrL H n l → DpAll K H (refs l) (l.map dat)
  | [], _ => .nil
  | z :: r, h => .cons (dp_pair (h z List.mem_cons_self).at_) (FrL.dps fun y hy => h y (List.mem_cons_of_mem _ hy))
theorem dats_lay (l : List Fq) : PyData.canLayAll0 (l.map dat) = true ∧ PyData.depthAll (l.map dat) ≤ 1 := by
  induction l with
  | nil => exact ⟨rfl, by decide⟩
  | cons z r ih =>
    refine ⟨?_, ?_⟩
    · show (PyData.canLay0 (dat z) && PyData.canLayAll0 (r.map dat)) = true
      rw [ih.1]
      rfl
    · show max (PyData.depth (dat z)) (PyData.depthAll (r.map dat)) ≤ 1
      have e : PyData.depth (dat z) = 1 := rfl
      omega
theorem dats_shaped (l : List Fq) : SeqAt.shaped (.list (l.map dat)) = true := by
  obtain ⟨h1, h2⟩ := dats_lay l
  show (PyData.canLayAll0 (l.map dat) && decide (PyData.depthAll (l.map dat) + 1 ≤ 64)) = true
  rw [h1, decide_eq_true (by omega)] <;> rfl
theorem dats_nil (l : List Fq) : PyData.eqv (.list (l.map dat)) (.list []) = l.isEmpty := by
  cases l <;> rfl
theorem eqv_pair {a b c d : Int} : PyData.eqv (.tuple [.int a, .int b]) (.tuple [.int c, .int d]) = decide (a = c ∧ b = d) := by
  show ((a == c) && ((b == d) && true)) = decide (a = c ∧ b = d)
  rw [Bool.and_true, Bool.decide_and]
  rfl
/-! data of any make beside the box p -/
inductive Da (p : Addr) (H : Hp) : Nat → V → PyData → Prop
  | non (n : Nat) : Da p H (n + 1) .non .none
  | bl (n : Nat) (b : Bool) : Da p H (n + 1) (.bl b) (.bool b)
  | int (n : Nat) (i : Int) : Da p H (n + 1) (.int i) (.int i)
  | str (n : Nat) (x : Str) : Da p H (n + 1) (.str x) (.str x)
  | lst {n : Nat} {a : Addr} {xs : List V} {ds : List PyData} : a ≠ p → H a = some (.lst xs) → xs.length = ds.length → xs.length ≤ 100000 → (∀ (i : Nat) (x : V) (d : PyData), xs[i]? = some x → ds[i]? = some d → Da p H n x d) → Da p H (n + 1) (.ref a) (.list ds)
  | tup {n : Nat} {a : Addr} {xs : List V} {ds : List PyData} : a ≠ p → H a = some (.tup xs) → xs.length = ds.length → xs.length ≤ 100000 → (∀ (i : Nat) (x : V) (d : PyData), xs[i]? = some x → ds[i]? = some d → Da p H n x d) → Da p H (n + 1) (.ref a) (.tuple ds)
theorem Da.fr {p : Addr} {H H' : Hp} (s : Fr p H H') : ∀ {n : Nat} {v : V} {d : PyData}, Da p H n v d → Da p H' n v d := by
  intro n v d h
  induction h with
  | non n => exact .non n
  | bl n b => exact .bl n b
  | int n i => exact .int n i
  | str n x => exact .str n x
  | lst h0 h1 h2 h3 _ ih => exact .lst h0 (s _ _ h0 h1) h2 h3 ih
  | tup h0 h1 h2 h3 _ ih => exact .tup h0 (s _ _ h0 h1) h2 h3 ih
theorem Da.up {p : Addr} {H : Hp} {n m : Nat} {v : V} {d : PyData} (h : Da p H n v d) : n ≤ m → Da p H m v d := by
  intro le
  induction h generalizing m with
  | non n => obtain ⟨k, rfl⟩ : ∃ k, m = k + 1 := ⟨m - 1, by omega⟩; exact .non k
  | bl n b => obtain ⟨k, rfl⟩ : ∃ k, m = k + 1 := ⟨m - 1, by omega⟩; exact .bl k b
  | int n i => obtain ⟨k, rfl⟩ : ∃ k, m = k + 1 := ⟨m - 1, by omega⟩; exact .int k i
  | str n x => obtain ⟨k, rfl⟩ : ∃ k, m = k + 1 := ⟨m - 1, by omega⟩; exact .str k x
  | lst h0 h1 h2 h3 _ ih => obtain ⟨k, rfl⟩ : ∃ k, m = k + 1 := ⟨m - 1, by omega⟩; exact .lst h0 h1 h2 h3 fun i x d a b => ih i x d a b (by omega)
  | tup h0 h1 h2 h3 _ ih => obtain ⟨k, rfl⟩ : ∃ k, m = k + 1 := ⟨m - 1, by omega⟩; exact .tup h0 h1 h2 h3 fun i x d a b => ih i x d a b (by omega)
/-- each of a row is such data -/
def AllDa (p : Addr) (H : Hp) (n : Nat) (xs : List V) : Prop := ∀ x ∈ xs, ∃ d, Da p H n x d
theorem AllDa.fr {p : Addr} {H H' : Hp} {n : Nat} {xs : List V} (h : AllDa p H n xs) (s : Fr p H H') : AllDa p H' n xs := fun x hx => (h x hx).elim fun d q => ⟨d, q.fr s⟩
theorem AllDa.up {p : Addr} {H : Hp} {n m : Nat} {xs : List V} (h : AllDa p H n xs) (le : n ≤ m) : AllDa p H m xs := fun x hx => (h x hx).elim fun d q => ⟨d, q.up le⟩
theorem AllDa.nil {p : Addr} {H : Hp} {n : Nat} : AllDa p H n [] := fun x hx => absurd hx List.not_mem_nil
theorem AllDa.cons {p : Addr} {H : Hp} {n : Nat} {x : V} {xs : List V} (h : ∃ d, Da p H n x d) (t : AllDa p H n xs) : AllDa p H n (x :: xs) := fun y hy => by
  rcases List.mem_cons.mp hy with e | e
  · rw [e]
    exact h
  · exact t y e
theorem AllDa.append {p : Addr} {H : Hp} {n : Nat} {xs ys : List V} (h : AllDa p H n xs) (t : AllDa p H n ys) : AllDa p H n (xs ++ ys) := fun y hy => by
  rcases List.mem_append.mp hy with e | e
  · exact h y e
  · exact t y e
/-- what the datas of a row are -/
theorem AllDa.pick {p : Addr} {H : Hp} {n : Nat} : ∀ {xs : List V}, AllDa p H n xs → ∃ ds : List PyData, xs.length = ds.length ∧ ∀ (i : Nat) (x : V) (d : PyData), xs[i]? = some x → ds[i]? = some d → Da p H n x d
  | [], _ => ⟨[], rfl, fun i x d h => by simp at h⟩
  | x :: xs, h => by
    obtain ⟨d, q⟩ := h x List.mem_cons_self
    obtain ⟨ds, e, r⟩ := AllDa.pick (xs := xs) fun y hy => h y (List.mem_cons_of_mem _ hy)
    refine ⟨d :: ds, by rw [List.length_cons, List.length_cons, e], fun i y c h1 h2 => ?_⟩
    match i, h1, h2 with
    | 0, h1, h2 => cases h1; cases h2; exact q
    | i + 1, h1, h2 => exact r i y c h1 h2
theorem AllDa.tup {p : Addr} {H : Hp} {n : Nat} {xs : List V} {a : Addr} (h : AllDa p H n xs) (ne : a ≠ p) (e : H a = some (.tup xs)) (z : Nat.ble xs.length 100000 = true := by rfl) : ∃ d, Da p H (n + 1) (.ref a) d := by
  obtain ⟨ds, l, r⟩ := h.pick
  exact ⟨_, .tup ne e l (Nat.le_of_ble_eq_true z) r⟩
theorem AllDa.lst {p : Addr} {H : Hp} {n : Nat} {xs : List V} {a : Addr} (h : AllDa p H n xs) (ne : a ≠ p) (e : H a = some (.lst xs)) (z : Nat.ble xs.length 100000 = true := by rfl) : ∃ d, Da p H (n + 1) (.ref a) d := by
  obtain ⟨ds, l, r⟩ := h.pick
  exact ⟨_, .lst ne e l (Nat.le_of_ble_eq_true z) r⟩
theorem daI {p : Addr} {H : Hp} {n : Nat} (i : Int) : ∃ d, Da p H (n + 1) (.int i) d := ⟨_, .int n i⟩
theorem daB {p : Addr} {H : Hp} {n : Nat} (b : Bool) : ∃ d, Da p H (n + 1) (.bl b) d := ⟨_, .bl n b⟩
theorem daS {p : Addr} {H : Hp} {n : Nat} (x : Str) : ∃ d, Da p H (n + 1) (.str x) d := ⟨_, .str n x⟩
theorem daN {p : Addr} {H : Hp} {n : Nat} : ∃ d, Da p H (n + 1) .non d := ⟨_, .non n⟩
theorem AllDa.one {p : Addr} {H : Hp} {n m : Nat} {x : V} (h : ∃ d, Da p H n x d) (le : n ≤ m) : AllDa p H m [x] := .cons (h.elim fun d q => ⟨d, q.up le⟩) .nil
theorem AllDa.two {p : Addr} {H : Hp} {n : Nat} {x y : V} (h : ∃ d, Da p H n x d) (k : ∃ d, Da p H n y d) : AllDa p H n [x, y] := .cons h (.cons k .nil)
theorem da_fr {p : Addr} {H H' : Hp} {n : Nat} {v : V} (h : ∃ d, Da p H n v d) (s : Fr p H H') : ∃ d, Da p H' n v d := h.elim fun d q => ⟨d, q.fr s⟩
theorem da_up {p : Addr} {H : Hp} {n m : Nat} {v : V} (h : ∃ d, Da p H n v d) (le : n ≤ m) : ∃ d, Da p H m v d := h.elim fun d q => ⟨d, q.up le⟩
theorem BoxAt.new {H : Hp} {p a : Addr} {n : Nat} (h : BoxAt H p n) (e : H a = none) : a ≠ p := by
  obtain ⟨o, ho⟩ := h.some
  exact (ne_of_none ho e).symm
/-- an item at a place that is there -/
theorem at_some {xs : List V} {z : Int} (h0 : 0 ≤ z) (h1 : z < (xs.length : Int)) : ∃ v, atI xs z = some v ∧ v ∈ xs := by
  have g : xs[z.toNat]? = some xs[z.toNat] := List.getElem?_eq_getElem (by omega)
  exact ⟨_, at_of (j := z.toNat) (by omega) g, List.getElem_mem _⟩
/-- which kinds of built-in classes a data is of -/
def isTupD : PyData → Bool
  | .tuple _ => true
  | _ => false
def isIntD : PyData → Bool
  | .int _ => true
  | .bool _ => true
  | _ => false
def isBoolD : PyData → Bool
  | .bool _ => true
  | _ => false
def isListD : PyData → Bool
  | .list _ => true
  | _ => false
def isStrD : PyData → Bool
  | .str _ => true
  | _ => false
structure Kinds (K : PySem.W.Frag) (H : Hp) (v : V) (d : PyData) (t : String) : Prop where
  ty : TyX K H v (.type t)
  tup : kitB t "tuple" = some (isTupD d)
  lst : kitB t "list" = some (isListD d)
  int : kitB t "int" = some (isIntD d)
  bool : kitB t "bool" = some (isBoolD d)
  str : kitB t "str" = some (isStrD d)
theorem Da.kinds {K : PySem.W.Frag} {p : Addr} {H : Hp} {n : Nat} {v : V} {d : PyData} (h : Da p H n v d) : ∃ t, Kinds K H v d t := by
  cases h with
  | non => exact ⟨"NoneType", .base .non, by decide +kernel, by decide +kernel, by decide +kernel, by decide +kernel, by decide +kernel⟩
  | bl _ b => exact ⟨"bool", .base (.bl b), by show _ = some false; decide +kernel, by show _ = some false; decide +kernel, by show _ = some true; decide +kernel, by show _ = some true; decide +kernel, by show _ = some false; decide +kernel⟩
  | int _ i => exact ⟨"int", .base (.int i), by show _ = some false; decide +kernel, by show _ = some false; decide +kernel, by show _ = some true; decide +kernel, by show _ = some false; decide +kernel, by show _ = some false; decide +kernel⟩
  | str _ x => exact ⟨"str", .base (.str x), by show _ = some false; decide +kernel, by show _ = some false; decide +kernel, by show _ = some false; decide +kernel, by show _ = some false; decide +kernel, by show _ = some true; decide +kernel⟩
  | lst _ a1 => exact ⟨"list", .base (.lst a1), by show _ = some false; decide +kernel, by show _ = some true; decide +kernel, by show _ = some false; decide +kernel, by show _ = some false; decide +kernel, by show _ = some false; decide +kernel⟩
  | tup _ a1 => exact ⟨"tuple", .base (.tup a1), by show _ = some true; decide +kernel, by show _ = some false; decide +kernel, by show _ = some false; decide +kernel, by show _ = some false; decide +kernel, by show _ = some false; decide +kernel⟩
/-- repr of a truth -/
theorem cr_reprB {X : Cx} : CallR X (.builtin "repr") (fun xs H Q => ∃ b : Bool, xs = [.bl b] ∧ Q (.str (if b = true then "True" else "False")) H) := by
  intro pins s σ H xs us Q I r h
  obtain ⟨b, rfl, q⟩ := h
  cases r with
  | cons r1 r2 =>
    cases r2
    cases r1
    exact PySem.P.repr_of_bool ⟨.str _, H, I.tok _, ⟨_, rfl⟩, q⟩
/-- xs + ys, a new list -/
def rCatI : R2 := fun x y H Q => ∃ l b xs zs, x = .ref l ∧ y = .ref b ∧ H l = some (.lst xs) ∧ H b = some (.lst zs) ∧ xs.length + zs.length ≤ sizeLine ∧ ∀ p H', Same H H' → H p = none → H' p = some (.lst (xs ++ zs)) → Q (.ref p) H'
theorem op_catI {X : Cx} : OpR X (binaryOp .Add) rCatI := fun pins s σ H x y v u Q I rx ry ⟨l, b, xs, zs, e1, e2, h1, h2, z, k⟩ =>
  op_cat pins s σ H x y v u Q I rx ry ⟨l, b, xs, zs, e1, e2, h1, h2, z, fun p hp => k p _ (same_new hp) hp upd_same⟩
/-- a number; a fraction -/
def isNumD (d : PyData) : Bool := isIntD d && !isBoolD d
def isFracD : PyData → Bool
  | .tuple [.int t, .int b] => decide (0 < b) && decide (Nat.gcd t.natAbs b.natAbs = 1)
  | _ => false
theorem frac_no {d e : PyData} (h : isNumD d = false ∨ isNumD e = false) : isFracD (.tuple [d, e]) = false := by
  cases d <;> cases e <;> first | rfl | (rcases h with h | h <;> cases h)
theorem frac_len {ds : List PyData} (h : ds.length ≠ 2) : isFracD (.tuple ds) = false := by
  match ds, h with
  | [], _ => rfl
  | [d], _ => cases d <;> rfl
  | [_, _], h => exact absurd rfl h
  | d :: e :: _ :: _, _ => cases d <;> cases e <;> rfl
theorem num_int {p : Addr} {H : Hp} {n : Nat} {v : V} {d : PyData} (h : Da p H n v d) (k : isNumD d = true) : ∃ i, d = .int i ∧ v = .int i := by
  cases h with
  | int _ i => exact ⟨i, rfl, rfl⟩
  | non => cases k
  | bl => cases k
  | str => cases k
  | lst => cases k
  | tup => cases k
/-- rows of truths as data -/
theorem dps_bools {K : PySem.W.Frag} {H : Hp} : ∀ bs : List Bool, DpAll K H (bs.map V.bl) (bs.map PyData.bool)
  | [] => .nil
  | b :: r => .cons (.bl b) (dps_bools r)
theorem bools_shaped (bs : List Bool) : SeqAt.shaped (.list (bs.map PyData.bool)) = true := by
  have h : PyData.canLayAll0 (bs.map PyData.bool) = true ∧ PyData.depthAll (bs.map PyData.bool) = 0 := by
    induction bs with
    | nil => exact ⟨rfl, rfl⟩
    | cons b r ih =>
      refine ⟨?_, ?_⟩
      · show (PyData.canLay0 (.bool b) && PyData.canLayAll0 (r.map PyData.bool)) = true
        rw [ih.1] <;> rfl
      · show max (PyData.depth (.bool b)) (PyData.depthAll (r.map PyData.bool)) = 0
        rw [ih.2] <;> rfl
  show (PyData.canLayAll0 (bs.map PyData.bool) && decide (PyData.depthAll (bs.map PyData.bool) + 1 ≤ 64)) = true
  rw [h.1, h.2] <;> rfl
theorem take_one {α : Type} {l : List α} {i : Nat} {x : α} (h : l[i]? = some x) : l.take (i + 1) = l.take i ++ [x] := by
  rw [List.take_add_one, h] <;> rfl
end KR
/-! ### texts -/
namespace KR
open PySem PySem.Spec PyProof.Rows L2
theorem strs_of : ∀ {ys : List Str} {us : List Value}, Vals (ys.map V.str) us → StrsAre us ys
  | [], _, .nil => .nil
  | y :: r, _, .cons h t => by
    obtain ⟨k, rfl⟩ := h
    exact .cons y k (strs_of t)
section
variable {X : Cx} {K : PySem.W.Frag}
/-- sep.join(it), it a list walked from its end -/
theorem join_rev {prog : Program} {w : World} {A : Around} {E : Value → Shared → Prop} {s : Shared} {x : Str} {t : Tok} {it l : Addr} {items : Array Value} {ys : List Str} {Q : Value → Shared → Prop} (hh : A.handled = none)
    (hit : s.heap.IsRevIter it l ((items.size : Int) - 1)) (hl : s.heap.IsList l items) (hne : l ≠ it) (hn : items.size ≤ sizeLine)
    (hP : ∀ acc : Array Value, ItemsOf (fun i v => items[items.size - 1 - i]? = some v) acc items.size → StrsAre acc.toList ys) (hok : (ys.map (·.length)).sum + ys.length * x.length ≤ 16777216)
    (hq : ∀ (h' : Heap) (t' k : Nat), (∀ b o, b ≠ it → s.heap.get? b = some o → h'.get? b = some o) → Q (.str (Txt.join x ys) t') { s with heap := h', toks := k }) :
    wpAny (model prog w) A (call (.builtin "str.join") [.str x t, .ref it]) Q E s := by
  apply wpAny_call
  refine codeAny_call_builtin F.slot_str_join.plain F.entry_str_join (F.slot_str_join.check _ _ _ _ _ _ _ _ (typeIs_str _ _ _) (F.args_str_join_2 _ _) ?_)
  rw [join_tree_other]
  refine wpAny_bind (wpAny_typeOf hit.typeIs ?_)
  show wpAny _ A.in1 ((pyIter (.ref it)).tryCatch _ >>= fun j => collect j >>= fun vs => joinTail x vs) _ _ s
  refine wpAny_bind (wpAny_tryCatch (wpAny_pyIter_revIter hit (wpAny_bind (RT.collect_rev (A := A.in1) hh hit hl hne hn fun h' tk acc hk hacc => ?_))))
  obtain ⟨ps, e1, e2⟩ := strsAre_values (hP acc hacc)
  subst e2
  rw [e1]
  have fits := joinOk_of hok
  unfold JoinOk at fits
  rw [Bool.not_eq_true'] at fits
  have g : Gives (joinTail x (strValues ps)) (joinMade x ps) := by
    have g0 := gives_joinTail x ps fits
    rcases ps with _ | ⟨a, _ | ⟨b, r⟩⟩ <;> exact g0
  exact g prog w A (wants Q E) { s with heap := h', toks := tk } (post_join ps ⟨joinFit_length fits, fun t' k => hq h' t' k hk⟩)
/-- sep.join(reversed(xs)), xs a list of texts -/
def tJoinRev (K : PySem.W.Frag) (to te : TE) : TE := fun σ H Q => to σ H fun x H1 => (∃ a, x = .str a) ∧ te σ H1 fun v H2 => ∃ (a : Str) (q : Addr) (ys : List Str), x = .str a ∧ v = .ref q ∧ SqL K H2 q (ys.map V.str) ∧ (ys.map (·.length)).sum + ys.length * a.length ≤ 16777216 ∧ Q (.str (Txt.join a ys.reverse)) H2
theorem sum_rev (l : List Nat) : l.reverse.sum = l.sum := by
  induction l with
  | nil => rfl
  | cons a r ih =>
    rw [List.reverse_cons, List.sum_append, ih, List.sum_cons, List.sum_cons, List.sum_nil]
    omega
theorem pe_joinRev {o e : Expr} {to te : TE} {apos pos p pos2 : Pos} (hK : X.K = K) (hc : X.calm = true) (hg : Gl X "reversed") (hm : X.mg "reversed" = none) (ho : PE X o to) (he : PE X e te)
    (hs1 : starEach [.Call (.Name "reversed" p) [e] [] pos2] X.env = [(false, eval (.Call (.Name "reversed" p) [e] [] pos2) X.env)] := by rfl) (hs : starEach [e] X.env = (false, eval e X.env) :: starEach [] X.env := by rfl)
    (hbase : attributeBase o "join" X.env (eval o X.env) = eval o X.env := by rfl) (hline : (apos.endLine == pos.line) = true := by rfl) :
    PE X (.Call (.Attribute o "join" apos) [.Call (.Name "reversed" p) [e] [] pos2] [] pos) (tJoinRev K to te) := by
  subst hK
  constructor
  intro pins s σ H Q I want
  refine PySem.Call_method1 hbase hs1 hline (thn (ho.run pins s σ H _ I want) ?_)
  rintro v s1 ⟨x, H1, I1, r1, ⟨a, rfl⟩, q1⟩
  obtain ⟨t, rfl⟩ : ∃ t, v = Value.str a t := r1
  refine ⟨"str", "str.join", F.plainAttrs_str, F.slot_str_join, F.type_str_join, typeIs_str _ _ _, nofun, Calls.callWith_builtin rfl (Calls.evalArgs_plain (Calls.spliced_cons ?_))⟩
  refine Call_ (ld_blt I1 hg hm PyProof.Rows.boot_reversed (PyProof.Rows.callWith_type1 (args_cons (thn (he.run pins s1 σ H1 _ I1 q1) ?_) hs) hs rfl))
  rintro u s2 ⟨y, H2, I2, r2, a', q, ys, ea, rfl, hq, hz, k⟩
  cases ea
  cases r2
  obtain ⟨its, rv, pl, hsz⟩ := I2.list hq
  refine args_nil (call_reversed_list pl.isList (Calls.spliced_nil ?_))
  have old : ∀ b o, s2.heap.get? b = some o → (s2.heap.push (revObj q ((its.toArray.size : Int) - 1))).get? b = some o := fun b o g => Heap.get?_push_of_some _ g
  obtain ⟨oq, hoq, _⟩ := id pl.isList
  have neq : q ≠ s2.heap.objs.size := Nat.ne_of_lt (Heap.lt_size hoq)
  have len : its.toArray.size ≤ sizeLine := by rw [List.size_toArray, ← rv.length]; exact hsz
  refine join_rev (s := { s2 with heap := s2.heap.push (revObj q ((its.toArray.size : Int) - 1)) }) (ys := ys.reverse) (I2.ok.hd hc) ⟨_, Heap.get?_push_size _ rfl, rfl, rfl⟩ (pl.isList.push _) neq len (fun acc hacc => strs_of ?_) ?_ fun h' t' k' keep => ?_
  · rw [List.map_reverse]
    exact RT.vals_rev rv hacc
  · rw [List.map_reverse, sum_rev, List.length_reverse]
    exact hz
  · exact ⟨.str _, H2, I2.kept (t' := k') (fun b o g => keep b o (Nat.ne_of_lt (Heap.lt_size g)) (old b o g)), ⟨t', rfl⟩, k⟩
end
/-! texts as rows of codes -/
abbrev S (l : List Nat) : Str := ⟨l.toArray⟩
theorem tl_S (l : List Nat) : TL.tl (S l) = l := rfl
theorem S_tl (x : Str) : S (TL.tl x) = x := TL.mk_tl x
theorem S_len (l : List Nat) : (S l).length = l.length := by rw [TL.len_tl]
theorem S_app (l m : List Nat) : S l ++ S m = S (l ++ m) := TL.ext_tl (by rw [TL.tl_append])
theorem S_inj {l m : List Nat} (h : S l = S m) : l = m := congrArg TL.tl h
theorem lit_minus : ("-" : Str) = S [45] := by decide +kernel
theorem lit_stroke : ("/" : Str) = S [47] := by decide +kernel
theorem lit_one : ("1" : Str) = S [49] := by decide +kernel
theorem lit_zero : ("0" : Str) = S [48] := by decide +kernel
theorem lit_none : ("" : Str) = S [] := by decide +kernel
theorem lit_empty : Str.empty = S [] := by decide +kernel
theorem lit_digits : ("0123456789" : Str) = S [48, 49, 50, 51, 52, 53, 54, 55, 56, 57] := by decide +kernel
theorem num_S (n : Nat) : Str.ofString (toString ((n : Nat) : Int)) = S (TL.numL n) := TL.ext_tl (TL.tl_num n)
theorem numL_cut (n : Nat) : TL.numL n = (if n / 10 = 0 then [] else TL.numL (n / 10)) ++ [48 + n % 10] := by
  by_cases h : n < 10
  · rw [TL.numL_lt h, if_pos (by omega), show n % 10 = n by omega] <;> rfl
  · rw [TL.numL_step (by omega), if_neg (by omega)]
theorem dig_at {k : Int} (h0 : 0 ≤ k) (h1 : k < 10) : atI ("0123456789" : Str).cps.toList k = some (48 + k.toNat) := by
  rw [lit_digits]
  have ks : k = 0 ∨ k = 1 ∨ k = 2 ∨ k = 3 ∨ k = 4 ∨ k = 5 ∨ k = 6 ∨ k = 7 ∨ k = 8 ∨ k = 9 := by omega
  rcases ks with e | e | e | e | e | e | e | e | e | e <;> subst e <;> rfl
theorem lit_len : ("0123456789" : Str).length ≤ sizeLine := by decide +kernel
/-- text times a number from 0 -/
theorem op_mul_str {X : Cx} : OpR X (binaryOp .Mult) (fun x y H Q => ∃ (a : Str) (n : Nat), x = .str a ∧ y = .int (n : Int) ∧ a.length * n ≤ 100000 ∧ n ≤ 100000 ∧ Q (.str (Txt.mul a n)) H) := by
  intro pins s σ H x y v u Q I rx ry h
  obtain ⟨a, n, rfl, rfl, hz, hn, q⟩ := h
  obtain ⟨t, rfl⟩ := rx
  obtain ⟨t', rfl⟩ := ry
  refine SB.mul ⟨?_, fun h1 h2 => ?_, fun h1 h2 => ?_⟩ fun t2 k => ⟨.str _, H, I.tok _, ⟨_, rfl⟩, q⟩
  · rw [decide_eq_false (by omega), decide_eq_false (by omega)] <;> rfl
  · have n1 : (1 : Int) ≤ (n : Int) := by omega
    intro bad
    have b2 : ((2 ^ 63 - 1 : Int)) / (n : Int) ≥ (2 ^ 63 - 1 : Int) / 100000 := by
      refine Int.le_ediv_of_mul_le (by omega) ?_
      have e : (2 ^ 63 - 1 : Int) / 100000 * (n : Int) ≤ (2 ^ 63 - 1 : Int) / 100000 * 100000 := Int.mul_le_mul_of_nonneg_left (by omega) (by decide)
      exact Int.le_trans e (by decide)
    have a9 : a.length ≤ 100000 := by
      have : a.length * 1 ≤ a.length * n := Nat.mul_le_mul_left _ (by omega)
      omega
    have e3 : (2 ^ 63 - 1 : Int) / 100000 = 92233720368547 := by decide
    omega
  · rw [Int.toNat_natCast]
    exact decide_eq_false (by have := small hz; omega)
theorem mul_zero (a : Str) : Txt.mul a ((0 : Nat) : Int) = S [] := by
  unfold Txt.mul
  rw [if_pos (by decide), lit_empty]
theorem mul_one (a : Str) : Txt.mul a ((1 : Nat) : Int) = a := by
  unfold Txt.mul
  rw [if_neg (by decide), if_pos (by rfl)]
/-- a minus ahead, cut off -/
theorem sub_minus (l : List Nat) : Builtin.Str.subAt (S l) (S [45]) 0 = (l.head? == some 45) := by
  unfold Builtin.Str.subAt
  rcases l with _ | ⟨c, r⟩
  · rfl
  · have e : ((S (c :: r)).cps.extract 0 (0 + (S [45]).length)) = #[c] := by
      apply Array.toList_inj.mp
      rw [Array.toList_extract]
      rfl
    rw [e]
    show (#[c] == #[45]) = (some c == some 45)
    by_cases h : c = 45
    · subst h
      rfl
    · have e2 : (some c == some 45) = false := by
        rw [beq_eq_false_iff_ne]
        exact fun z => h (Option.some.inj z)
      rw [e2, beq_eq_false_iff_ne]
      intro z
      exact h (by have := congrArg (fun a => a[0]?) z; simpa using this)
theorem prefix_minus (l : List Nat) : Txt.removeprefix (S l) (S [45]) = S (if l.head? = some 45 then l.tail else l) := by
  unfold Txt.removeprefix
  rw [sub_minus]
  by_cases h : l.head? = some 45
  · rw [if_pos h, if_pos (by rw [h] <;> rfl)]
    rcases l with _ | ⟨c, r⟩
    · cases h
    · show (if ((S (c :: r)).length - (S [45]).length == (S (c :: r)).length) = true then S (c :: r) else Builtin.Str.strSub (S (c :: r)) (S [45]).length (S (c :: r)).length) = S r
      have e1 : (S (c :: r)).length = r.length + 1 := by rw [S_len] <;> rfl
      have e2 : (S [45]).length = 1 := rfl
      rw [if_neg (by rw [e1, e2, beq_iff_eq]; omega)]
      apply TL.ext_tl
      show ((S (c :: r)).cps.extract (S [45]).length (S (c :: r)).length).toList = r
      rw [Array.toList_extract, e1, e2]
      show List.take (r.length + 1 - 1) (List.drop 1 (c :: r)) = r
      rw [Nat.add_sub_cancel]
      exact List.take_length
  · rw [if_neg h, if_neg (by rw [beq_iff_eq]; exact h)]
    rfl
theorem starts_minus (l : List Nat) : Txt.startswith (S l) (S [45]) = (l.head? == some 45) := by
  unfold Txt.startswith
  rw [sub_minus]
  rcases l with _ | ⟨c, r⟩
  · rfl
  · rw [decide_eq_true (show 0 + (S [45]).length ≤ (S (c :: r)).length by rw [S_len, S_len]; show 0 + 1 ≤ r.length + 1; omega), Bool.true_and]
/-- one to so many figures -/
def figs (l : List Nat) : Bool := !l.isEmpty && l.all fun c => decide (48 ≤ c) && decide (c ≤ 57)
theorem ascii_S (l : List Nat) : Txt.isascii (S l) = l.all (· < 128) := by
  unfold Txt.isascii
  rw [← Array.all_toList]
theorem dig_code : ∀ c, c < 128 → Unicode.isDigit c = (decide (48 ≤ c) && decide (c ≤ 57)) := by decide +kernel
theorem digit_S {l : List Nat} (h : l.all (· < 128) = true) : Txt.isdigit (S l) = figs l := by
  unfold Txt.isdigit figs
  rw [← Array.all_toList, S_len]
  have e1 : decide (l.length > 0) = !l.isEmpty := by
    cases l <;> rfl
  have e2 : l.all Unicode.isDigit = l.all fun c => decide (48 ≤ c) && decide (c ≤ 57) := by
    rw [List.all_eq_true] at h
    clear e1
    induction l with
    | nil => rfl
    | cons c r ih =>
      rw [List.all_cons, List.all_cons, ih fun x hx => h x (List.mem_cons_of_mem _ hx), dig_code c (of_decide_eq_true (h c List.mem_cons_self))]
  rw [e1]
  exact congrArg _ e2
theorem figs_ascii {l : List Nat} (h : figs l = true) : l.all (· < 128) = true := by
  unfold figs at h
  rw [Bool.and_eq_true] at h
  have h3 := List.all_eq_true.mp h.2
  rw [List.all_eq_true]
  intro c hc
  have := h3 c hc
  rw [Bool.and_eq_true] at this
  have h2 := of_decide_eq_true this.2
  exact decide_eq_true (by omega)
theorem figs_num (n : Nat) : figs (TL.numL n) = true := by
  unfold figs
  rw [Bool.and_eq_true]
  refine ⟨?_, ?_⟩
  · have := TL.numL_ne n
    cases e : TL.numL n with
    | nil => exact absurd e this
    | cons _ _ => rfl
  · rw [List.all_eq_true]
    intro c hc
    have := TL.numL_digits n c hc
    rw [decide_eq_true this.1, decide_eq_true this.2] <;> rfl
theorem figs_int {l : List Nat} (h : figs l = true) (z : l.length ≤ 600) : PySem.intText? (S l) = some ((NumText.digitsVal l : Nat) : Int) := by
  unfold figs at h
  rw [Bool.and_eq_true] at h
  have d : NumText.AllDigits l := fun c hc => by
    have := List.all_eq_true.mp h.2 c hc
    rw [Bool.and_eq_true] at this
    exact ⟨of_decide_eq_true this.1, of_decide_eq_true this.2⟩
  have ne : l ≠ [] := by
    intro e
    rw [e] at h
    exact Bool.noConfusion h.1
  exact PySem.intText_digits (x := S l) d ne (by rw [S_len]; omega)
/-- a fraction's text -/
def fracL (t b : Int) : List Nat := (if t < 0 then [45] else []) ++ (TL.numL t.natAbs ++ (if b = 1 then [] else 47 :: TL.numL b.natAbs))
/-- ahead of the first stroke, whether there is one, behind it -/
def cutL : List Nat → List Nat × Bool × List Nat
  | [] => ([], false, [])
  | c :: r => if c = 47 then ([], true, r) else (c :: (cutL r).1, (cutL r).2)
theorem cut_app {a b : List Nat} (h : 47 ∉ a) : cutL (a ++ 47 :: b) = (a, true, b) := by
  induction a with
  | nil => rfl
  | cons c r ih =>
    have hc : c ≠ 47 := fun e => h (by rw [e]; exact List.mem_cons_self)
    have ih' := ih fun m => h (List.mem_cons_of_mem _ m)
    show (if c = 47 then _ else (c :: (cutL (r ++ 47 :: b)).1, (cutL (r ++ 47 :: b)).2)) = _
    rw [if_neg hc, ih']
theorem cut_none {a : List Nat} (h : 47 ∉ a) : cutL a = (a, false, []) := by
  induction a with
  | nil => rfl
  | cons c r ih =>
    have hc : c ≠ 47 := fun e => h (by rw [e]; exact List.mem_cons_self)
    have ih' := ih fun m => h (List.mem_cons_of_mem _ m)
    show (if c = 47 then _ else (c :: (cutL r).1, (cutL r).2)) = _
    rw [if_neg hc, ih']
/-- either no stroke, or the first one -/
theorem cut_ways (l : List Nat) : (47 ∉ l ∧ cutL l = (l, false, [])) ∨ ∃ a b, l = a ++ 47 :: b ∧ 47 ∉ a ∧ cutL l = (a, true, b) := by
  by_cases h : 47 ∈ l
  · obtain ⟨a, b, e, n⟩ := List.eq_append_cons_of_mem h
    exact .inr ⟨a, b, e, n, by rw [e]; exact cut_app n⟩
  · exact .inl ⟨h, cut_none h⟩
end KR
/-! ### a caught exception that is kept behind its suite -/
namespace KR
open PySem PySem.Spec PyProof.Rows L2
/-- an exception that was caught, at a: its class, its own dict -/
def ExK (cls : Value) (d : Option Addr) (a : Addr) : HO := .ext fun g => ∃ (ob : Obj) (fs : Array Value), g.get? a = some ob ∧ Zc cls d ob ∧ ob.data = .fields fs
theorem exK_ok {P : Program} {w : World} {H : Hp} {g : Heap} {a : Addr} {cls : Value} {d : Option Addr} {ob : Obj} {fs : Array Value} (e : g.get? a = some ob) (z : Zc cls d ob) (k : ob.data = .fields fs) : ObjOk P w H g a (ExK cls d a) :=
  ⟨⟨ob, fs, e, z, k⟩, ⟨ob, e⟩, fun _ _ ⟨o, v, q, r⟩ m => ⟨o, v, m o q, r⟩⟩
/-- on with the object told -/
def wKeep (K : PySem.W.Frag) (c : Value) (i : Nat) (ts : Addr → Value → Option Addr → TS) (Wo : WX) (D : Ends) : WX := fun cls d σ H =>
  ∃ hit, PySem.W.exmOne K cls c = some hit ∧
    (hit = true → ∀ a, H a = none → ts a cls d { D with nx := fun τ G => D.nx (τ.set i none) (upd G a (ExK cls d a)), bk := fun τ G => D.bk (τ.set i none) G, ct := fun τ G => D.ct (τ.set i none) G } (σ.set i (some (.ref a))) H) ∧
    (hit = false → Wo cls d σ H)
section
variable {X : Cx} {pins : List (Addr × Obj)} {σ : L2.St} {H : Hp} {s : Shared}
/-- an object that nobody tracks, new since the entry, is tracked from now on -/
theorem Inv.track {a : Addr} {o : HO} (I : Inv X pins σ H s) (na : H a = none) (old : a ∈ X.ex ∨ X.s_0.heap.get? a = none) (nL : a ≠ X.env.locals) (nC : ∀ z c, X.env.cells.lookup z = some c → c ≠ a)
    (nP : ∀ p ∈ X.pn ++ pins, p.1 ≠ a) (new : ObjOk X.prog X.w (upd H a o) s.heap a o) : Inv X pins σ (upd H a o) s := by
  refine ⟨I.ok, I.os, I.bare, ⟨I.base.keep, I.base.slot, ?_, I.base.there, ?_, ?_, ?_⟩, I.loc, I.cell, ?_, ?_, ?_, ?_, I.len⟩
  · intro b ob e1 e2 e3
    have ne : b ≠ a := fun z => by
      rw [z] at e1 e3
      rcases old with q | q
      · exact e3 q
      · rw [q] at e1
        cases e1
    rw [upd_ne ne]
    exact I.base.free b ob e1 e2 e3
  · intro b xs e
    have e' := I.base.tups b xs e
    rw [upd_ne (ne_of_none e' na)]
    exact e'
  · intro b ob u e
    have e' := I.base.frzs b ob u e
    rw [upd_ne (ne_of_none e' na)]
    exact e'
  · intro b ps e
    obtain ⟨more, e'⟩ := I.base.tbls b ps e
    refine ⟨more, ?_⟩
    rw [upd_ne (ne_of_none e' na)]
    exact e'
  · rw [upd_ne (Ne.symm nL)]
    exact I.free
  · intro z c e
    rw [upd_ne (nC z c e)]
    exact I.freeC z c e
  · intro p hp
    obtain ⟨h1, h2, h3, h4, h5⟩ := I.pin p hp
    refine ⟨h1, ?_, h3, h4, h5⟩
    rw [upd_ne (nP p hp)]
    exact h2
  · intro b u e
    by_cases z : b = a
    · subst z
      rw [upd_same] at e
      cases e
      exact new
    · rw [upd_ne z] at e
      refine (I.hok b u e).stay (fun _ _ _ g => g) (fun c g => ?_) fun c xs g => ?_
      · rw [upd_ne (ne_of_none g na)]
        exact g
      · rw [upd_ne (ne_of_none g na)]
        exact g
end
section
variable {X : Cx} {x n : Str} {c : Value} {i : Nat} {body suite : List Stmt} {b0 : Stmt} {p1 p2 p3 : Pos} {tb : WX → TS} {ts : Addr → Value → Option Addr → TS} {Wo : WX}
/-- try .. except x as n: what the suite keeps of the exception may be asked behind it -/
theorem ps_try_keep (stk : X.stack = X.env :: X.outer) (frm : X.env.frame = some X.env.locals) (nd : X.N.Nodup) (sl : X.N[i]? = some n) (kn : X.env.kindOf n = some .local) (nm : Names X x c) (out : Takes X Wo)
    (hbody : ∀ (W : WX) (pn : List (Addr × Obj)) (xe : Value → Shared → Prop), Takes (X.tr pn xe) W → PassesOwn (model X.prog X.w) X.A X.env xe → PSs (X.tr pn xe) body (tb W))
    (hsuite : ∀ (a : Addr) (ob : Obj) (cls : Value) (d : Option Addr) (pn : List (Addr × Obj)), Zc cls d ob → (∃ fs, ob.data = .fields fs) → PSs (X.suite a ((a, ob) :: pn)) (b0 :: suite) (ts a cls d)) :
    PS X (.Try body [.ExceptHandler (some (.Name x p1)) (some n) (b0 :: suite) p2] [] [] p3) (fun D σ H => tb (wKeep X.K c i ts Wo D) D σ H) := by
  constructor
  intro pins s σ H D I ask
  have fine := I.ok
  have frames : X.A.frames = some (X.env :: X.outer) := by rw [fine.frames, stk]
  have place : Loc X.env.scope n := .inl kn
  refine wpAny_Try_except ?_
  refine wpAny_mono ((hbody (wKeep X.K c i ts Wo D) (X.pn ++ pins) (fun e t1 => wpAny (model X.prog X.w) X.A (noteFrame e X.env) (fun _ t2 => wpAny (model X.prog X.w) X.A (setFlight e none) (fun _ t3 =>
    wpAny (model X.prog X.w) X.A (handleBy e X.env [.ExceptHandler (some (.Name x p1)) (some n) (b0 :: suite) p2]) (SP X pins D) X.xe t3) X.xe t2) X.xe t1) (fun v t0 air => ?caught) PassesOwn.looking).run [] s σ H D (I.toTry _) ask) (fun f s1 sp => ?done) (fun _ _ h => h)
  case done =>
    cases f with
    | next =>
      obtain ⟨τ, G, J, more⟩ := sp
      exact wpAny_execs_nil ⟨τ, G, J.ofTry fine, more⟩
    | brk =>
      obtain ⟨τ, G, J, more⟩ := sp
      exact ⟨τ, G, J.ofTry fine, more⟩
    | cont =>
      obtain ⟨τ, G, J, more⟩ := sp
      exact ⟨τ, G, J.ofTry fine, more⟩
    | ret u =>
      obtain ⟨v, τ, G, J, rel, more⟩ := sp
      exact ⟨v, τ, G, J.ofTry fine, rel, more⟩
  case caught =>
    obtain ⟨a, B, sB, ps, τ, G, cls, d, rfl, J0, ground, up0, sky, na, os, bare, hit, eHit, yes, no⟩ := air
    have J : Inv X pins τ G sB := J0.ofTry fine
    have sky1 : Sky B (X.env :: X.outer) a (Zc cls d) X.env.locals t0.heap := by rw [← stk]; exact sky
    show wpAny (model X.prog X.w) X.A (noteFrame (.ref a) X.env) _ _ _
    refine Sky.land Zc.steady frames frm sky1 fun g1 fly1 up1 => ?_
    obtain ⟨ob1, fs1, at_1, z1, d1⟩ := fly1.there
    have noFrame : a ∉ frs (X.env :: X.outer) := fun m => by
      obtain ⟨_, o2, e2, bad⟩ := fly1.2.2.1.mem m
      rw [at_1] at e2
      cases e2
      exact bad _ d1
    have nL : a ≠ X.env.locals := fun z => noFrame (List.mem_filterMap.mpr ⟨X.env, List.mem_cons_self, by rw [frm, z]⟩)
    have nF : a ∉ X.fs := fun m => by
      obtain ⟨e, he, q⟩ := List.mem_filterMap.mp m
      exact noFrame (List.mem_filterMap.mpr ⟨e, List.mem_cons_of_mem _ he, q⟩)
    -- the object is new since the entry
    have fresh : sB.heap.get? a = none := by
      cases e : sB.heap.get? a with
      | none => rfl
      | some o =>
        have inB := ground a o e (by rw [stk]; exact noFrame)
        rw [fly1.2.1] at inB
        cases inB
    have old : a ∈ X.ex ∨ X.s_0.heap.get? a = none := by
      by_cases ex : a ∈ X.ex
      · exact .inl ex
      · right
        cases e : X.s_0.heap.get? a with
        | none => rfl
        | some o =>
          obtain ⟨o2, e2⟩ := J.base.there a o e ex
          rw [fresh] at e2
          cases e2
    have J1 : Inv X pins τ G { t0 with heap := g1 } := J.landed ground fly1.1 (up0.trans up1) os bare
    have inner := J1.suite at_1 d1 na nL nF
    refine wpAny_handleBy_cons (codeAny_handlers_test ?_) (by intro q; cases q)
    have kind : PySem.W.Looks (model X.prog X.w) g1 (typeOf (.ref a)) cls := fun _ _ _ _ k q => wpAny_typeOf_ref (k _ _ at_1) (by rw [z1.1]; exact q)
    have match_ := PySem.W.exm_one (M := model X.prog X.w) J1.kIn kind eHit
    have named : ∀ {R : Value → Shared → Prop} {E : Value → Shared → Prop}, R c { t0 with heap := g1 } → wpAny (model X.prog X.w) (X.A.mark (some (.ref a))) (eval (.Name x p1) X.env) R E { t0 with heap := g1 } := fun {R E} r => by
      obtain ⟨u1, u2, u3 | ⟨u3, u4, u5⟩⟩ := nm
      · exact ld_glob (X := X.suite a ((a, ob1) :: (X.pn ++ pins))) inner u1 u3 r u2
      · exact ld_blt (X := X.suite a ((a, ob1) :: (X.pn ++ pins))) inner u1 u3 u4 r u5 u2
    refine named (match_.here ?_)
    have noPin : ∀ p ∈ X.pn ++ pins, p.1 ≠ a := fun p hp z => by
      have q := (J.pin p hp).1
      rw [z, fresh] at q
      cases q
    have noCell : ∀ z c, X.env.cells.lookup z = some c → c ≠ a := fun z c e q => by
      obtain ⟨v, o, e1, _⟩ := J.cell z c e
      rw [q, fresh] at e1
      cases e1
    cases hit with
    | true =>
      refine codeAny_handlers_suite_as ?_
      refine HandSPX.lands_againZ fly1 fun g2 fly2 up2 => ?_
      obtain ⟨ob2, fs2, at_2, z2, d2⟩ := fly2.there
      have J2 : Inv X pins τ G { t0 with heap := g2 } := J.landed ground fly2.1 ((up0.trans up1).trans up2) os bare
      have within := J2.suite at_2 d2 na nL nF
      refine store_ok (X := X.suite a ((a, ob2) :: (X.pn ++ pins))) (v := .ref a) within nd sl place rfl (fun t3 J3 => ?_) (.inr kn)
      refine wpAny_mono ((hsuite a ob2 cls d (X.pn ++ pins) z2 ⟨_, d2⟩).run [] t3 _ G _ J3 (yes rfl a na)) (fun f t4 sp => ?_) (fun _ _ z => False.elim z)
      have leave : ∀ {τ4 : L2.St} {G4 : Hp} {R : Shared → Prop}, Inv (X.suite a ((a, ob2) :: (X.pn ++ pins))) [] τ4 G4 t4 → (∀ t5, Inv (X.suite a ((a, ob2) :: (X.pn ++ pins))) [] (τ4.set i none) G4 t5 → R t5) →
          wpAny (model X.prog X.w) X.A (do bindName X.env n .none; unbindBehindTheSuite X.env n p2) (fun _ t5 => R t5) X.xe t4 := fun {τ4 G4 R} J4 r =>
        gone_ok (X := X.suite a ((a, ob2) :: (X.pn ++ pins))) J4 nd sl kn r
      cases f with
      | next =>
        obtain ⟨τ4, G4, J4, more⟩ := sp
        refine leave J4 fun t5 J5 => ?_
        obtain ⟨k1, k2, _⟩ := J5.pin (a, ob2) (List.mem_append_left _ List.mem_cons_self)
        have J6 := J5.unsuite fine
        exact ⟨_, _, Inv.track J6 k2 old nL noCell noPin (exK_ok k1 z2 d2), more⟩
      | brk =>
        obtain ⟨τ4, G4, J4, more⟩ := sp
        exact leave J4 fun t5 J5 => ⟨_, _, J5.unsuite fine, more⟩
      | cont =>
        obtain ⟨τ4, G4, J4, more⟩ := sp
        exact leave J4 fun t5 J5 => ⟨_, _, J5.unsuite fine, more⟩
      | ret u =>
        obtain ⟨v, τ4, G4, J4, rel, more⟩ := sp
        exact leave J4 fun t5 J5 => ⟨_, _, _, J5.unsuite fine, rel, more⟩
    | false =>
      show wpAny _ X.A (handleBy (.ref a) X.env []) _ _ _
      refine wpAny_handleBy_nil ?_
      obtain ⟨_, _, _, o3, v3, T3, l3, w3, in3, z3, data3, slot3, _⟩ := id fly1
      unfold PySem.passOn
      refine wpAny_bind (wpAny_field in3 data3 slot3 ?_)
      have ref3 : ¬ ((Value.ref T3 == Value.none) = true) := by simp
      rw [if_neg ref3]
      have throw3 : wpAny (model X.prog X.w) X.A (setFlight (.ref a) X.env.frame) (fun _ t4 => wpAny (model X.prog X.w) X.A (throw (.ref a) : Sem Flow) (SP X pins D) X.xe t4) X.xe { t0 with heap := g1 } := by
        rw [frm]
        refine HandSPX.setFlight_upZ fly1 fun g2 held2 up2 => wpAny_throw (out _ _ ?_)
        have sky2 : Sky B X.stack a (Zc cls d) X.env.locals g2 := .inr (.inr (by rw [stk]; exact held2))
        exact ⟨a, B, sB, pins, τ, G, cls, d, rfl, J, ground, (up0.trans up1).trans up2, sky2, na, os, bare, no rfl⟩
      first
        | exact wpAny_bind throw3
        | exact wpAny_bind (wpAny_pure (wpAny_bind throw3))
end
/-- what the written part says of a class whose objects are caught -/
structure ExcFacts (K : PySem.W.Frag) (C : Addr) : Prop where
  cl : (PySem.W.clsIn K C).isSome = true
  ga : PySem.W.findIn K (.ref C) "__getattribute__" = some (some (.builtin "BaseException.__getattribute__"))
  gg : PySem.W.findIn K (.ref C) "__getattr__" = some none
  sub : PySem.W.subIn K (.ref C) (.type "BaseException") = some true
  cls : PySem.W.findIn K (.ref C) "__class__" = some (some (.builtin "object.__class__"))
  get : PySem.W.specialIn K (.builtin "object.__class__") "__get__" = some (some (.builtin "getset_descriptor.__get__"))
  tak : PySem.W.takesIn K (.builtin "object.__class__") = some true
  obj : PySem.W.mroIn K C (.type "object") = some true
  dic : PySem.W.hasDictIn K C = true
  fld : PySem.W.findIn K (.ref C) "what" = some none
/-- which classes an exception's class stands under, by what the written part says of both -/
theorem kit_own {K : PySem.W.Frag} {C D : Addr} {b : Bool} (h1 : PySem.W.isClsIn K D = true) (h2 : PySem.W.typeIn K (.ref D) = some (.type "type")) (h3 : PySem.W.subIn K (.ref C) (.ref D) = some b) (h4 : PySem.W.subIn K (.ref C) (.ref C) = some true) : PySem.W.kitOne K (.ref C) (.ref D) = some b := by
  unfold PySem.W.kitOne
  by_cases e : (Value.ref C == Value.ref D) = true
  · rw [if_pos e]
    have e2 : Value.ref C = Value.ref D := eq_of_beq e
    rw [← e2, h4] at h3
    exact h3
  · rw [if_neg e]
    show (if ((PySem.W.clsIn K D).isSome && PySem.W.typeIn K (.ref D) == some (.type "type")) = true then PySem.W.subIn K (.ref C) (.ref D) else none) = some b
    have h1' : (PySem.W.clsIn K D).isSome = true := h1
    have e1 : ((PySem.W.clsIn K D).isSome && PySem.W.typeIn K (.ref D) == some (.type "type")) = true := by rw [h1', h2] <;> rfl
    rw [if_pos e1]
    exact h3
theorem kit_ve {K : PySem.W.Frag} {C : Addr} (h : PySem.W.subIn K (.ref C) (.type "ValueError") = some true) : PySem.W.kitOne K (.ref C) (.type "ValueError") = some true := by
  unfold PySem.W.kitOne
  rw [if_neg (by intro z; exact absurd (eq_of_beq z) (by intro y; cases y))]
  show (if PySem.W.kitMeta "ValueError" = true then PySem.W.subIn K (.ref C) (.type "ValueError") else none) = some true
  rw [if_pos (by decide +kernel)]
  exact h
theorem exm_own {K : PySem.W.Frag} {C D : Addr} {b : Bool} (h0 : PySem.W.subIn K (.ref D) (.type "BaseException") = some true) (h1 : PySem.W.isClsIn K D = true) (h2 : PySem.W.typeIn K (.ref D) = some (.type "type")) (h3 : PySem.W.subIn K (.ref C) (.ref D) = some b) : PySem.W.exmOne K (.ref C) (.ref D) = some b := by
  unfold PySem.W.exmOne
  have e0 : (PySem.W.subIn K (.ref D) (.type "BaseException") == some true) = true := by rw [h0] <;> rfl
  rw [if_pos e0]
  show (if ((PySem.W.clsIn K D).isSome && PySem.W.typeIn K (.ref D) == some (.type "type")) = true then PySem.W.subIn K (.ref C) (.ref D) else none) = some b
  have h1' : (PySem.W.clsIn K D).isSome = true := h1
  have e1 : ((PySem.W.clsIn K D).isSome && PySem.W.typeIn K (.ref D) == some (.type "type")) = true := by rw [h1', h2] <;> rfl
  rw [if_pos e1]
  exact h3
/-- what an exception's own dict has: its class's name, what it was made with -/
def wh (nm : Str) (v : V) : List (Str × V) := [(("word" : Str), .str nm), (("what" : Str), v)]
/-- a caught one at a, its dict at d: the field what is v -/
structure Kept (K : PySem.W.Frag) (H : Hp) (a C d : Addr) (v : V) : Prop where
  F : ExcFacts K C
  ob : H a = some (ExK (.ref C) (some d) a)
  di : ∃ nm : Str, H d = some (.xd (wh nm v))
theorem Kept.same {K : PySem.W.Frag} {H G : Hp} {a C d : Addr} {v : V} (k : Kept K H a C d v) (s : Same H G) : Kept K G a C d v := ⟨k.F, s _ _ k.ob, k.di.imp fun _ e => s _ _ e⟩
section
variable {X : Cx} {pins : List (Addr × Obj)} {σ : L2.St} {H : Hp} {s : Shared}
theorem Kept.inst {a C d : Addr} {v : V} (k : Kept X.K H a C d v) (I : Inv X pins σ H s) : ∃ (nm : Str) (ob od : Obj) (m : Str → Option Value), PySem.W.InstAt s.heap a ob C (some od) ∧ s.heap.Ns1 d m ∧ s.heap.get? d = some od ∧ (∀ f, RelO (List.lookup f (wh nm v)) (m f)) := by
  obtain ⟨nm, kdi⟩ := k.di
  obtain ⟨⟨ob, fs, e, z, da⟩, _⟩ := (show ObjOk X.prog X.w H s.heap a (ExK (.ref C) (some d) a) from I.hok a _ k.ob)
  obtain ⟨m, ns, r⟩ := (show ObjOk X.prog X.w H s.heap d (.xd (wh nm v)) from I.hok d _ kdi)
  obtain ⟨od, ho, _⟩ := lookIn_ns ns
  exact ⟨nm, ob, od, m, ⟨e, z.1, by unfold PySem.W.notCls; rw [da] <;> rfl, by rw [z.2]; exact ho⟩, ns, ho, r⟩
end
/-- isinstance of a kept one: a class, a tuple of classes -/
def rIsX (K : PySem.W.Frag) : List V → Hp → VK → Prop := fun xs H Q => ∃ (a C d : Addr) (v k : V) (u : Value) (b : Bool), xs = [.ref a, k] ∧ Kept K H a C d v ∧ ClsV k u ∧ PySem.W.kitOne K (.ref C) u = some b ∧ Q (.bl b) H
def rIsXT (K : PySem.W.Frag) : List V → Hp → VK → Prop := fun xs H Q => ∃ (a C d tp : Addr) (v : V) (ks : List V) (us : List Value) (b : Bool), xs = [.ref a, .ref tp] ∧ Kept K H a C d v ∧ H tp = some (.tup ks) ∧ Paired ClsV ks us ∧ PySem.W.kitAny K (.ref C) us = some b ∧ Q (.bl b) H
section
variable {X : Cx} {K : PySem.W.Frag}
theorem isX (hK : X.K = K) : CallR X (.builtin "isinstance") (rIsX K) := by
  subst hK
  intro pins s σ H xs us Q I rel ⟨a, C, d, v, k, u, b, e, kp, kc, ko, q⟩
  subst e
  obtain ⟨w1, w2, e2, r1, r2⟩ := vals2 rel
  subst e2
  obtain rfl : w1 = Value.ref a := r1
  obtain rfl := kc.eq r2
  obtain ⟨nm, ob, od, m, inst, _⟩ := kp.inst I
  have kit := PySem.W.kitx_exc (x := a) (ox := ob) (od := some od) kp.F.cl kp.F.ga kp.F.gg kp.F.sub kp.F.cls kp.F.get kp.F.tak kp.F.obj
  exact PySem.W.kia_one kit I.kIn inst ko (fun z => nomatch z) fun tk => ⟨.bl b, H, I.tok tk, rfl, q⟩
theorem isXT (hK : X.K = K) : CallR X (.builtin "isinstance") (rIsXT K) := by
  subst hK
  intro pins s σ H xs us Q I rel ⟨a, C, d, tp, v, ks, cs, b, e, kp, ht, kc, ko, q⟩
  subst e
  obtain ⟨w1, w2, e2, r1, r2⟩ := vals2 rel
  subst e2
  obtain rfl : w1 = Value.ref a := r1
  obtain rfl : w2 = Value.ref tp := r2
  obtain ⟨nm, ob, od, m, inst, _⟩ := kp.inst I
  have kit := PySem.W.kitx_exc (x := a) (ox := ob) (od := some od) kp.F.cl kp.F.ga kp.F.gg kp.F.sub kp.F.cls kp.F.get kp.F.tak kp.F.obj
  obtain ⟨_, items, rv, o, at_o, c_o, len_o, data_o⟩ := (show ObjOk X.prog X.w H s.heap tp (.tup ks) from I.hok tp _ ht)
  obtain rfl := ClsV.all kc rv
  obtain ⟨oc, odict, odata, oslots⟩ := o
  simp only at c_o data_o
  subst c_o data_o
  exact PySem.W.kia_tup kit I.kIn inst at_o ko (fun z => nomatch z) fun tk => ⟨.bl b, H, I.tok tk, rfl, q⟩
/-- caught.what -/
def tWhat (K : PySem.W.Frag) (te : TE) : TE := fun σ H Q => te σ H fun x G => ∃ (a C d : Addr) (v : V), x = .ref a ∧ Kept K G a C d v ∧ Q v G
theorem pe_what {e : Expr} {te : TE} {pos : Pos} (hK : X.K = K) (he : PE X e te) (hb : attributeBase e "what" X.env (eval e X.env) = eval e X.env := by rfl) : PE X (.Attribute e "what" pos) (tWhat K te) := by
  subst hK
  constructor
  intro pins s σ H Q I ask
  refine attr_of hb (thn (he.run pins s σ H _ I ask) fun u t1 got => ?_)
  obtain ⟨x, G, J, rel, a, C, d, v, e1, kp, q⟩ := got
  subst e1
  obtain rfl : u = Value.ref a := rel
  obtain ⟨nm, ob, od, m, inst, ns, at_d, fs⟩ := kp.inst J
  obtain ⟨od2, at_d2, look⟩ := lookIn_ns ns
  rw [at_d] at at_d2
  obtain rfl := Option.some.inj at_d2
  have l1 : List.lookup ("what" : Str) (wh nm v) = some v := rfl
  obtain ⟨w, hw, rw_⟩ := RelO.some_of (v := v) (o := m "what") (by rw [← l1]; exact fs "what")
  have found := PySem.W.findObj_own (K := X.K) (C := C) (od := od) kp.F.dic kp.F.fld rfl (by rw [look, hw])
  exact HandSPX.exc_get J.kIn inst kp.F.ga kp.F.gg kp.F.sub found (handed_of rw_) ⟨v, G, J.tok _, rw_, q⟩
end
end KR
/-! ### the name of its class, which an exception keeps: self.word = self.__class__.__name__ -/
namespace PySem.W
open PySem PySem.Calls PySem.Spec PyProof.Rows Builtin Builtin.Getset_descriptor
section
variable {pg : Program} {wd : World} {Ar : Around} {Ex : Value → Shared → Prop} {sh : Shared} {Fg : Frag} {Rr : Result → Shared → Prop} {Cl z : Addr} {oz : Obj} {oy : Option Obj}
theorem own_dga (dv tv : Value) (b : Addr) : descrGetArgs ⟨[dv, .ref b, tv], []⟩ = pure (dv, some (.ref b), given tv) := by kernel_rfl
theorem own_name_get {tv : Value} {oc : Obj} {nm : Str} {tk : Tok} (at_C : sh.heap.get? Cl = some oc) (ty : oc.cls = .type "type") (sl : (oc.slots[2]?).join = some (.str nm tk)) (want : Rr (.ok (.ret (.str nm tk))) sh) :
    codeAny (model pg wd) Ar (.call (.builtin "getset_descriptor.__get__") ⟨[.builtin "type.__name__", .ref Cl, tv], []⟩) Rr sh := by
  obtain ⟨hh, g, dr, t, os⟩ := sh
  have K0 : Looks (model pg wd) hh (typeOf (.ref Cl)) (.type "type") := fun _ _ _ _ keep q => wpAny_typeOf_ref (keep _ _ at_C) (by rw [ty]; exact q)
  have K1 : Looks (model pg wd) hh (isSubtype (.type "type") (.type "type")) true := .of_pure (by rw [isSubtype_type] <;> kernel_rfl)
  refine codeAny_call_builtin KF.slot_gs.plain KF.entry_gs <| KF.slot_gs.check _ _ _ _ _ _ _ _ ktyn_type (KF.args_gs _ _ _) ?_
  unfold Builtin.«getset_descriptor.__get__» descrGet; rw [own_dga]; refine wpAny_bind <| wpAny_pure ?_
  unfold descrGetter descrCheckInstance descrNameAndClass isInstance; simp only [ktyn_owner]
  repeat lk
  refine ⟨Code.quiet_builtin _ (by decide +kernel), codeAny_builtin ktyn_entry ?_⟩
  unfold Builtin.«type.__name__»; dsimp only
  unfold keptObject slotAt; dsimp only
  refine wpAny_bind (wpAny_bind (wpAny_loadPart_at at_C (wpAny_pure ?_)))
  rw [sl]; dsimp only
  first
    | exact wpAny_pure want
    | exact wpAny_bind (wpAny_pure want)
    | exact wpAny_bind (wpAny_pure (wpAny_pure want))
theorem own_name {expr : Bool} {Q : Value → Shared → Prop} {oc : Obj} {nm : Str} {tk : Tok} (X : Fg.In sh.heap) (rd : readsIn Fg Cl (.type "type") = true) (fc : findCls Fg (.ref Cl) (.type "type") "__name__" = some (.get (.builtin "getset_descriptor.__get__") (.builtin "type.__name__") (.ref Cl) (.type "type")))
    (lk : Fg.lookup Cl = some oc) (ty : oc.cls = .type "type") (sl : (oc.slots[2]?).join = some (.str nm tk)) (want : ∀ u, Q (.str nm tk) { sh with toks := u }) : wpAny (model pg wd) Ar (getAttr (.ref Cl) "__name__" expr) Q Ex sh := by
  refine cls_read X rd fc ?_
  show wpAny _ _ (holding [Value.builtin "type.__name__"] (call (.builtin "getset_descriptor.__get__") [.builtin "type.__name__", .ref Cl, .type "type"]) >>= ret) _ _ _
  refine wpAny_bind <| wpAny_holding <| wpAny_call <| own_name_get (sh := { sh with toks := sh.toks + 1 }) (X _ _ lk) ty sl ?_
  exact wpAny_pure (handed_on rfl (want _))
theorem own_class {expr : Bool} {Q : Value → Shared → Prop} (X : Fg.In sh.heap) (I : InstAt sh.heap z oz Cl oy) (c1 : findIn Fg (.ref Cl) "__getattribute__" = some (some (.builtin "BaseException.__getattribute__"))) (c2 : findIn Fg (.ref Cl) "__getattr__" = some none)
    (c3 : subIn Fg (.ref Cl) (.type "BaseException") = some true) (c4 : (clsIn Fg Cl).isSome = true) (c5 : findIn Fg (.ref Cl) "__class__" = some (some (.builtin "object.__class__"))) (c6 : specialIn Fg (.builtin "object.__class__") "__get__" = some (some (.builtin "getset_descriptor.__get__")))
    (c7 : takesIn Fg (.builtin "object.__class__") = some true) (c8 : mroIn Fg Cl (.type "object") = some true) (want : ∀ u, Q (.ref Cl) { sh with toks := u }) : wpAny (model pg wd) Ar (getAttr (.ref z) "__class__" expr) Q Ex sh := by
  have fo : findObj Fg Cl oy "__class__" = some (.bind (.builtin "getset_descriptor.__get__") (.builtin "object.__class__")) := by
    cases oy with
    | none => exact findObj_dataN c4 c5 c6 c7
    | some ob => exact findObj_data c4 c5 c6 c7
  obtain ⟨hh, g, dr, t, os⟩ := sh
  have K0 := I.type (M := model pg wd)
  have K1 := looks_findIn (M := model pg wd) X c1
  have K2 := looks_findIn (M := model pg wd) X c2
  have K3 := looks_find (M := model pg wd) X I fo
  have below : Looks (model pg wd) hh (isInstance (.ref z) (.type "BaseException")) true := K0.andThen (looks_subIn X c3)
  have n0 : (expr && onTheHeap (Value.builtin "BaseException.__getattribute__")) = false := by cases expr <;> rfl
  have n1 : (Value.builtin "BaseException.__getattribute__" == Value.builtin "object.__getattribute__") = false := by decide +kernel
  have n2 : (onTheHeap (Value.ref Cl) && Value.builtin "BaseException.__getattribute__" == Value.builtin "object.__getattribute__") = false := by rw [n1] <;> rfl
  unfold getAttr getAttrBy
  refine wpAny_bind <| wpAny_mkText <| wpAny_holding <| wpAny_bind <| K0.at <| wpAny_bind <| K1.at ?_
  show wpAny _ _ (ite ((onTheHeap (Value.ref Cl) && Value.builtin "BaseException.__getattribute__" == Value.builtin "object.__getattribute__") = true) _ _) _ _ _
  rw [n2, if_neg Bool.false_ne_true]; unfold getAttrByItsOwn hookBefore; refine wpAny_bind ?_
  rw [if_pos (show onTheHeap (Value.ref Cl) = true from rfl)]; refine K2.at ?_; refine wpAny_bind <| wpAny_attempt <| wpAny_holding ?_
  unfold callGetattribute; rw [n0, if_neg Bool.false_ne_true]; unfold boundAndCalled; rw [PySem.F.excAttr_ValueError.ga.bind (.ref z)]; refine wpAny_bind <| wpAny_pure ?_
  show wpAny _ _ (call (.builtin "BaseException.__getattribute__") [.ref z, .str "__class__" t]) _ _ _
  refine wpAny_call <| codeAny_call_builtin PySem.F.excAttr_ValueError.ga.plain PySem.F.entry_bexc_ga ?_
  refine @check_slot (model pg wd) _ _ ⟨hh, g, dr, t + 1, os⟩ "BaseException.__getattribute__" "BaseException" "__getattribute__" (.ref z) [.str "__class__" t] [] _ (by decide +kernel) (by decide +kernel) below (PySem.F.args_bexc_ga (.ref z) (.str "__class__" t)) ?_
  unfold Builtin.«object.__getattribute__»; refine wpAny_bind <| wpAny_of_eq (a := ((Value.ref z : Value), [Value.str "__class__" t])) (by first | rfl | (simp only [slotArgs]; rfl)) ?_
  refine wpAny_bind <| wpAny_pure <| wpAny_bind <| K0.at <| wpAny_bind <| K3.at ?_
  show wpAny _ _ (holding [Value.builtin "object.__class__"] (call (.builtin "getset_descriptor.__get__") [.builtin "object.__class__", .ref z, .ref Cl]) >>= ret) _ _ _
  refine wpAny_bind <| wpAny_holding <| wpAny_call <| class_get (s := ⟨hh, g, dr, t + 1, os⟩) (ox := oz) (od := oy) X I c8 ?_
  refine wpAny_pure ?_
  show wpAny _ _ (handedOut (.ref Cl)) _ _ _
  rw [handedOut_of (v := .ref Cl) rfl]
  first
    | exact wpAny_pure (want _)
    | exact wpAny_pure (wpAny_pure (want _))
end
end PySem.W
namespace KR
open PySem PySem.Spec PyProof.Rows L2
/-- a class whose own name, kept since it was made, is nm -/
structure NmC (K : PySem.W.Frag) (C : Addr) (nm : Str) : Prop where
  ro : ∃ (oc : Obj) (tk : Tok), K.lookup C = some oc ∧ oc.cls = .type "type" ∧ (oc.slots[2]?).join = some (.str nm tk)
  rd : PySem.W.readsIn K C (.type "type") = true
  fw : PySem.W.findIn K (.ref C) "word" = some none
  fc : PySem.W.findCls K (.ref C) (.type "type") "__name__" = some (.get (.builtin "getset_descriptor.__get__") (.builtin "type.__name__") (.ref C) (.type "type"))
/-- self.__class__.__name__ of one that is being made -/
def tCnm (K : PySem.W.Frag) (to : TE) : TE := fun σ H Q => to σ H fun x H1 => ∃ (a C d : Addr) (fs : List (Str × V)) (nm : Str), x = .ref a ∧ ExcFacts K C ∧ NmC K C nm ∧ H1 a = some (exo a C (some d)) ∧ H1 d = some (exd d fs) ∧ Q (.str nm) H1
theorem pe_cnm {X : Cx} {o : Expr} {to : TE} {p1 p2 : Pos} (ho : PE X o to) (h1 : attributeBase o "__class__" X.env (eval o X.env) = eval o X.env := by rfl)
    (h2 : attributeBase (.Attribute o "__class__" p1) "__name__" X.env (eval (.Attribute o "__class__" p1) X.env) = eval (.Attribute o "__class__" p1) X.env := by rfl) : PE X (.Attribute (.Attribute o "__class__" p1) "__name__" p2) (tCnm X.K to) := by
  refine ⟨fun pins s σ H Q I ask => ?_⟩
  refine attr_of h2 (attr_of h1 (thn (ho.run pins s σ H _ I ask) fun u s1 got => ?_))
  obtain ⟨x, H1, J, rel, a, C, d, fs, nm, e1, F, N, ha, hd, q⟩ := got
  subst e1
  obtain rfl : u = Value.ref a := rel
  obtain ⟨t1, at_a⟩ := exo_at J.hok ha
  obtain ⟨mA, ns, _⟩ := exd_at J.hok hd
  obtain ⟨od, at_d, _⟩ := lookIn_ns ns
  obtain ⟨oc, tk, lk, ty, sl⟩ := N.ro
  refine PySem.W.own_class J.kIn (oy := some od) ⟨at_a, rfl, rfl, at_d⟩ F.ga F.gg F.sub F.cl F.cls F.get F.tak F.obj fun u1 => ?_
  exact PySem.W.own_name (J.tok u1).kIn N.rd N.fc lk ty sl fun u2 => ⟨.str nm, H1, J.tok u2, ⟨tk, rfl⟩, q⟩
/-- the dict of one that is being made, told twice -/
theorem upd_twice {H : Hp} {a d : Addr} {o1 o2 o3 : HO} (ne : d ≠ a) : upd (upd (upd H d o1) a o2) d o3 = upd (upd H d o3) a o2 := by
  funext b
  by_cases e1 : b = a
  · subst e1
    rw [upd_ne (Ne.symm ne), upd_same, upd_same]
  · by_cases e2 : b = d
    · subst e2
      rw [upd_same, upd_ne e1, upd_same]
    · rw [upd_ne e2, upd_ne e1, upd_ne e2, upd_ne e1, upd_ne e2]
/-- self.what = what; self.word = self.__class__.__name__ -/
theorem init_reads {K : PySem.W.Frag} {C a : Addr} {nm : Str} {v : V} {H : Hp} {D : Ends} (O : OexC K C) (F : ExcFacts K C) (N : NmC K C nm) (ha : H a = some (exo a C none)) (q : ∀ dx, H dx = none → dx ≠ a → D.nx [some (.ref a), some v] (upd (upd H dx (exd dx (wh nm v))) a (exo a C (some dx)))) :
    tSeq (tOst K "what" (tVar 0) (tVar 1)) (tOst K "word" (tVar 0) (tCnm K (tVar 0))) D [some (.ref a), some v] H := by
  refine ⟨_, rfl, _, rfl, a, C, rfl, O, F.fld, .inl ⟨ha, fun dx h1 h2 => ?_⟩⟩
  have e1 : (upd (upd H dx (exd dx [(("what" : Str), v)])) a (exo a C (some dx))) dx = some (exd dx [(("what" : Str), v)]) := by rw [upd_ne h2, upd_same]
  refine ⟨_, rfl, a, C, dx, _, nm, rfl, F, N, upd_same, e1, _, rfl, a, C, rfl, O, N.fw, .inr ⟨dx, _, upd_same, e1, by show 1 ≤ 900; decide, ?_⟩⟩
  rw [upd_twice h2]
  exact q dx h1 h2
end KR
/-! ### an instance that is made, where its own __init__ may raise -/
namespace KR
open PySem PySem.Spec PyProof.Rows L2
theorem passX0 {X : Cx} : Passes (L2.CX X.prog X.w) X E0 := fun pins σ H s1 e s' I z => by
  obtain ⟨a, B, H', cls, d, _, _, _, _, _, _, _, q⟩ := z
  exact q.elim
section
variable {X : Cx} {CX : CXT} {n : Nat} {fI cl : Addr} {fd : FuncData} {names : List Str} {sp : Sp} {E : L2.St → XK} {x : Str} {p pos : Pos} {e : Expr} {es : List Expr} {t : TA}
/-- what is left to be shown of it: __init__ with the new instance ahead -/
def tMakeS (cl : Addr) (sp : Sp) (E : L2.St → XK) (t : TA) : TE := fun σ H Q => t σ H fun vs G => ∀ a da, G a = none → G da = none → da ≠ a → sp (.ref a :: vs) (upd (upd G da (.own a)) a (.ins cl da [])) (fun u J => u = .non ∧ Q (.ref a) J) (E σ)
theorem pe_makeS (mk : Mk X.K cl fI) (F : FnOk X.prog X.w X.K X.mg X.base CX n fI fd names sp) (room : Room (n + 1) X.A) (glob : Gl X x) (here : X.mg x = some (.ref cl)) (bind : Binds X.K fd names []) (pass : ∀ σ, PassesAt CX X σ (E σ)) (args : PA X (e :: es) t)
    (nd : (x == ("__debug__" : Str)) = false := by decide) (st : starEach (e :: es) X.env = (false, eval e X.env) :: starEach es X.env := by rfl) (bk : (backTo pos (starEach es X.env)).any (·.1) = false := by rfl) : PE X (.Call (.Name x p) (e :: es) [] pos) (tMakeS cl sp E t) := by
  constructor
  intro pins s σ H Q I ask
  refine wpAny_Call_Name_kw (ld_glob I glob here (PySem.W.callWith_K (h₀ := X.base) I.ok.mod.kin mk.kp (thn (args.run pos pins s σ H _ I ask) ?_) st bk) nd)
  rintro us s1 ⟨vs, G, J, rel, q⟩
  refine ⟨J.kIn, ?_⟩
  have ask2 := q (s1.heap.objs.size + 1) s1.heap.objs.size (J.hok.fresh (Nat.le_succ _)) (J.hok.fresh (Nat.le_refl _)) (Nat.ne_of_lt (Nat.lt_succ_self _))
  have made := Inv.made (C := cl) J
  have rel2 : Vals (V.ref (s1.heap.objs.size + 1) :: vs) (Value.ref (s1.heap.objs.size + 1) :: us) := .cons rfl rel
  have many : (Value.ref (s1.heap.objs.size + 1) :: us).length = names.length := by rw [← F.len _ _ _ _ ask2]; exact rel2.length.symm
  have bound := bind _ (Value.ref (s1.heap.objs.size + 1) :: us) made.kIn (by rw [List.append_nil]; exact many)
  rw [List.append_nil] at bound
  refine wpAny_call (make_map (f := fI) J.kIn mk.makes mk.init (beq_iff_eq.mp mk.fn) (codeAny_mono (F.run _ X.stack _ _ ⟨Value.ref (s1.heap.objs.size + 1) :: us, []⟩ _ _ _ (E σ) (room.make cl us []) (made.env0.make cl us []) bound rel2 ask2) ?_))
  intro r s2 post
  match r, post with
  | .error er, post => exact pass σ pins _ _ er s2 made post
  | .ok (.ret u), post =>
    obtain ⟨v, H2, J2, rv, ev, q3⟩ := made.after post
    cases ev
    exact ⟨rv, V.ref (s1.heap.objs.size + 1), H2, J2, rfl, q3⟩
  | .ok .next, post => exact post.elim
  | .ok .brk, post => exact post.elim
  | .ok .cont, post => exact post.elim
end
/-- behind a raise all is as it was, beside it the new one's own dict -/
theorem raised_keeps {G : Hp} {a d : Addr} {o1 o2 o3 o4 : HO} (na : G a = none) (ndd : G d = none) : Same G (upd (del (upd (upd (upd G a o1) d o2) a o3) a) d o4) := fun b o e => by
  have ba := ne_of_none e na
  have bd := ne_of_none e ndd
  rw [upd_ne bd, del_ne ba, upd_ne ba, upd_ne bd, upd_ne ba]
  exact e
/-- how a refusal is made: its field what is what it is made with, its field word its class's name -/
def sp_initX (C : Addr) (nm : Str) : Sp := fun vs H Q _ => ∃ (a : Addr) (v : V), vs = [.ref a, v] ∧ H a = some (exo a C none) ∧ ∀ dx, H dx = none → dx ≠ a → Q .non (upd (upd H dx (exd dx (wh nm v))) a (exo a C (some dx)))
end KR
namespace KR
open PySem PySem.Spec PyProof.Rows L2
def top (i : Nat) : Stmt := PySem.Challenge.pw_kettlerow_k05_texts_of_fractions_spoilt.main.body.getD i (.Pass ⟨0, 0, 0, 0⟩)
abbrev s_p_is_number : Stmt := top 11
theorem sc_p_is_number : FnScope ["thing"] ["thing"] (defScope s_p_is_number) := ⟨rfl, rfl, rfl, by decide +kernel, rfl, by decide +kernel, by decide +kernel⟩
abbrev s_p_figures_of : Stmt := top 12
theorem sc_p_figures_of : FnScope ["number", "chunks", "chunk"] ["number"] (defScope s_p_figures_of) := ⟨rfl, rfl, rfl, by decide +kernel, rfl, by decide +kernel, by decide +kernel⟩
abbrev s_p_are_figures : Stmt := top 13
theorem sc_p_are_figures : FnScope ["text", "most"] ["text", "most"] (defScope s_p_are_figures) := ⟨rfl, rfl, rfl, by decide +kernel, rfl, by decide +kernel, by decide +kernel⟩
abbrev s_p_is_frac : Stmt := top 15
theorem sc_p_is_frac : FnScope ["thing", "top", "bottom"] ["thing"] (defScope s_p_is_frac) := ⟨rfl, rfl, rfl, by decide +kernel, rfl, by decide +kernel, by decide +kernel⟩
abbrev s_p_frac_text : Stmt := top 18
theorem sc_p_frac_text : FnScope ["one", "top", "bottom", "text"] ["one"] (defScope s_p_frac_text) := ⟨rfl, rfl, rfl, by decide +kernel, rfl, by decide +kernel, by decide +kernel⟩
abbrev s_p_frac_in : Stmt := top 19
theorem sc_p_frac_in : FnScope ["text", "one"] ["text"] (defScope s_p_frac_in) := ⟨rfl, rfl, rfl, by decide +kernel, rfl, by decide +kernel, by decide +kernel⟩
abbrev s_p__read : Stmt := top 20
theorem sc_p__read : FnScope ["text", "top", "stroke", "bottom"] ["text"] (defScope s_p__read) := ⟨rfl, rfl, rfl, by decide +kernel, rfl, by decide +kernel, by decide +kernel⟩
abbrev s_l_cell_at : Stmt := top 22
theorem sc_l_cell_at : FnScope ["_law_script", "_law_k"] ["_law_script", "_law_k"] (defScope s_l_cell_at) := ⟨rfl, rfl, rfl, by decide +kernel, rfl, by decide +kernel, by decide +kernel⟩
abbrev s_l_box : Stmt := top 23
theorem sc_l_box : FnScope ["_law_script", "_law_k", "_law_cell"] ["_law_script", "_law_k"] (defScope s_l_box) := ⟨rfl, rfl, rfl, by decide +kernel, rfl, by decide +kernel, by decide +kernel⟩
abbrev s_l_take : Stmt := top 24
theorem sc_l_take : FnScope ["_law_box_here", "_law_many", "_law_found_here", "_law_once", "_law_twice"] ["_law_box_here", "_law_many"] (defScope s_l_take) := ⟨rfl, rfl, rfl, by decide +kernel, rfl, by decide +kernel, by decide +kernel⟩
abbrev s_l_low : Stmt := top 25
theorem sc_l_low : FnScope ["_law_top", "_law_bottom", "_law_one", "_law_other"] ["_law_top", "_law_bottom"] (defScope s_l_low) := ⟨rfl, rfl, rfl, by decide +kernel, rfl, by decide +kernel, by decide +kernel⟩
abbrev s_l_frac : Stmt := top 26
theorem sc_l_frac : FnScope ["_law_box_here", "_law_below", "_law_way", "_law_sign_here", "_law_most"] ["_law_box_here", "_law_below"] (defScope s_l_frac) := ⟨rfl, rfl, rfl, by decide +kernel, rfl, by decide +kernel, by decide +kernel⟩
abbrev s_l_number : Stmt := top 27
theorem sc_l_number : FnScope ["_law_word", "_law_number_here", "_law_sign_here"] ["_law_word"] (defScope s_l_number) := ⟨rfl, rfl, rfl, by decide +kernel, rfl, by decide +kernel, by decide +kernel⟩
abbrev s_l_read : Stmt := top 28
theorem sc_l_read : FnScope ["_law_text_here", "_law_words", "_law_numbers", "_law_word", "_law_top"] ["_law_text_here"] (defScope s_l_read) := ⟨rfl, rfl, rfl, by decide +kernel, rfl, by decide +kernel, by decide +kernel⟩
abbrev s_l_sign : Stmt := top 29
theorem sc_l_sign : FnScope ["_law_box_here", "_law_signs", "_law_way", "_law_few"] ["_law_box_here"] (defScope s_l_sign) := ⟨rfl, rfl, rfl, by decide +kernel, rfl, by decide +kernel, by decide +kernel⟩
abbrev s_l_bent : Stmt := top 30
theorem sc_l_bent : FnScope ["_law_box_here", "_law_text_here", "_law_way", "_law_at", "_law_sign_here", "_law_some", "_law_turned_two", "_law_behind", "_law_top", "_law_bottom"] ["_law_box_here", "_law_text_here"] (defScope s_l_bent) := ⟨rfl, rfl, rfl, by decide +kernel, rfl, by decide +kernel, by decide +kernel⟩
abbrev s_l_found : Stmt := top 31
theorem sc_l_found : FnScope ["_law_text_here", "_law_caught", "_law_found_here", "error", "_law_whole", "_law_part"] ["_law_text_here"] (defScope s_l_found) := ⟨rfl, rfl, rfl, by decide +kernel, rfl, by decide +kernel, by decide +kernel⟩
abbrev s_l_due : Stmt := top 32
theorem sc_l_due : FnScope ["_law_text_here", "_law_told"] ["_law_text_here"] (defScope s_l_due) := ⟨rfl, rfl, rfl, by decide +kernel, rfl, by decide +kernel, by decide +kernel⟩
abbrev s_l_text : Stmt := top 33
theorem sc_l_text : FnScope ["_law_one"] ["_law_one"] (defScope s_l_text) := ⟨rfl, rfl, rfl, by decide +kernel, rfl, by decide +kernel, by decide +kernel⟩
abbrev s_l_right : Stmt := top 34
theorem sc_l_right : FnScope ["_law_box_here", "_law_turn", "_law_text_here", "_law_bent_here", "_law_one", "_law_some"] ["_law_box_here"] (defScope s_l_right) := ⟨rfl, rfl, rfl, by decide +kernel, rfl, by decide +kernel, by decide +kernel⟩
abbrev s_p_law : Stmt := top 35
theorem sc_p_law : FnScope ["_law_script", "_law_k"] ["_law_script"] (defScope s_p_law) := ⟨rfl, rfl, rfl, by decide +kernel, rfl, by decide +kernel, by decide +kernel⟩
def clsBody : Stmt → List Stmt
  | .ClassDef (body := b) .. => b
  | _ => []
abbrev s_init_BadFrac : Stmt := (clsBody (top 3)).getD 0 (.Pass ⟨0, 0, 0, 0⟩)
theorem sc_init_BadFrac : FnScope ["self", "what"] ["self", "what"] (defScope s_init_BadFrac) := ⟨rfl, rfl, rfl, by decide +kernel, rfl, by decide +kernel, by decide +kernel⟩
structure All (K : PySem.W.Frag) (mg : Str → Option Value) where
  f_p_is_number : Addr
  fd_p_is_number : FuncData
  d_p_is_number : Def K mg "is_number" s_p_is_number f_p_is_number fd_p_is_number ["thing"]
  f_p_figures_of : Addr
  fd_p_figures_of : FuncData
  d_p_figures_of : Def K mg "figures_of" s_p_figures_of f_p_figures_of fd_p_figures_of ["number"]
  f_p_are_figures : Addr
  fd_p_are_figures : FuncData
  d_p_are_figures : Def K mg "are_figures" s_p_are_figures f_p_are_figures fd_p_are_figures ["text", "most"]
  f_p_is_frac : Addr
  fd_p_is_frac : FuncData
  d_p_is_frac : Def K mg "is_frac" s_p_is_frac f_p_is_frac fd_p_is_frac ["thing"]
  f_p_frac_text : Addr
  fd_p_frac_text : FuncData
  d_p_frac_text : Def K mg "frac_text" s_p_frac_text f_p_frac_text fd_p_frac_text ["one"]
  f_p_frac_in : Addr
  fd_p_frac_in : FuncData
  d_p_frac_in : Def K mg "frac_in" s_p_frac_in f_p_frac_in fd_p_frac_in ["text"]
  f_p__read : Addr
  fd_p__read : FuncData
  d_p__read : Def K mg "_read" s_p__read f_p__read fd_p__read ["text"]
  f_l_cell_at : Addr
  fd_l_cell_at : FuncData
  d_l_cell_at : Def K mg "_law_cell_at" s_l_cell_at f_l_cell_at fd_l_cell_at ["_law_script", "_law_k"]
  f_l_box : Addr
  fd_l_box : FuncData
  d_l_box : Def K mg "_law_box" s_l_box f_l_box fd_l_box ["_law_script", "_law_k"]
  f_l_take : Addr
  fd_l_take : FuncData
  d_l_take : Def K mg "_law_take" s_l_take f_l_take fd_l_take ["_law_box_here", "_law_many"]
  f_l_low : Addr
  fd_l_low : FuncData
  d_l_low : Def K mg "_law_low" s_l_low f_l_low fd_l_low ["_law_top", "_law_bottom"]
  f_l_frac : Addr
  fd_l_frac : FuncData
  d_l_frac : Def K mg "_law_frac" s_l_frac f_l_frac fd_l_frac ["_law_box_here", "_law_below"]
  f_l_number : Addr
  fd_l_number : FuncData
  d_l_number : Def K mg "_law_number" s_l_number f_l_number fd_l_number ["_law_word"]
  f_l_read : Addr
  fd_l_read : FuncData
  d_l_read : Def K mg "_law_read" s_l_read f_l_read fd_l_read ["_law_text_here"]
  f_l_sign : Addr
  fd_l_sign : FuncData
  d_l_sign : Def K mg "_law_sign" s_l_sign f_l_sign fd_l_sign ["_law_box_here"]
  f_l_bent : Addr
  fd_l_bent : FuncData
  d_l_bent : Def K mg "_law_bent" s_l_bent f_l_bent fd_l_bent ["_law_box_here", "_law_text_here"]
  f_l_found : Addr
  fd_l_found : FuncData
  d_l_found : Def K mg "_law_found" s_l_found f_l_found fd_l_found ["_law_text_here"]
  f_l_due : Addr
  fd_l_due : FuncData
  d_l_due : Def K mg "_law_due" s_l_due f_l_due fd_l_due ["_law_text_here"]
  f_l_text : Addr
  fd_l_text : FuncData
  d_l_text : Def K mg "_law_text" s_l_text f_l_text fd_l_text ["_law_one"]
  f_l_right : Addr
  fd_l_right : FuncData
  d_l_right : Def K mg "_law_right" s_l_right f_l_right fd_l_right ["_law_box_here"]
  f_p_law : Addr
  fd_p_law : FuncData
  d_p_law : Def K mg "law" s_p_law f_p_law fd_p_law ["_law_script"]
  b_ValueError : mg "ValueError" = none
  b_abs : mg "abs" = none
  b_all : mg "all" = none
  b_bool : mg "bool" = none
  b_int : mg "int" = none
  b_isinstance : mg "isinstance" = none
  b_len : mg "len" = none
  b_min : mg "min" = none
  b_range : mg "range" = none
  b_reversed : mg "reversed" = none
  b_str : mg "str" = none
  b_tuple : mg "tuple" = none
  m_gcd : mg "gcd" = some (.builtin "math.gcd")
  t_CHUNK : Tok
  c_CHUNK : mg "CHUNK" = some (.int 10000000000000000000000000000000000000000000000000000000000000000 t_CHUNK)
  t_MOST_FIGURES : Tok
  c_MOST_FIGURES : mg "MOST_FIGURES" = some (.int 40 t_MOST_FIGURES)
  C_BoilError : Addr
  g_BoilError : mg "BoilError" = some (.ref C_BoilError)
  C_BadFrac : Addr
  g_BadFrac : mg "BadFrac" = some (.ref C_BadFrac)
  C_BadDeed : Addr
  g_BadDeed : mg "BadDeed" = some (.ref C_BadDeed)
  C_BadRow : Addr
  g_BadRow : mg "BadRow" = some (.ref C_BadRow)
  C_NoHour : Addr
  g_NoHour : mg "NoHour" = some (.ref C_NoHour)
  C_NoShare : Addr
  g_NoShare : mg "NoShare" = some (.ref C_NoShare)
  O_BadFrac : OexC K C_BadFrac
  fI_BadFrac : Addr
  fdI_BadFrac : FuncData
  i_BadFrac : PySem.W.findIn K (.ref C_BadFrac) "__init__" = some (some (.ref fI_BadFrac))
  tI_BadFrac : PySem.W.typeIn K (.ref fI_BadFrac) = some (.type "function")
  FI_BadFrac : Fun K "__init__" "BadFrac.__init__" s_init_BadFrac fI_BadFrac fdI_BadFrac
  bI_BadFrac : Binds K fdI_BadFrac ["self", "what"] []
  E_BadFrac : ExcFacts K C_BadFrac
  N_BadFrac : NmC K C_BadFrac "BadFrac"
  te : PySem.W.exmOne K (.ref C_BadFrac) (.ref C_BoilError) = some true
  k4 : PySem.W.kitAny K (.ref C_BadFrac) [.ref C_BadDeed, .ref C_BadRow, .ref C_NoHour, .ref C_NoShare] = some false
  kV : PySem.W.kitOne K (.ref C_BadFrac) (.type "ValueError") = some true
  kF : PySem.W.kitOne K (.ref C_BadFrac) (.ref C_BadFrac) = some true
theorem ok_init_BadFrac {P : Program} {w : World} {K : PySem.W.Frag} {mg : Str → Option Value} {base : Heap} (T : All K mg) : FnOk P w K mg base CX0 1 T.fI_BadFrac T.fdI_BadFrac ["self", "what"] (sp_initX T.C_BadFrac "BadFrac") := by
  refine T.FI_BadFrac.ok sc_init_BadFrac (fun vs H Q E h => ?_) (fun cdv A outer s H vs Q E hr h => ?_)
  · obtain ⟨a, v, rfl, _⟩ := h
    rfl
  · obtain ⟨a, v, rfl, ha, q⟩ := h
    exact ⟨_, pss_cons (ps_ost (pv 0) (pv 1)) (pss_one (ps_ost (pv 0) (pe_cnm (pv 0)))), init_reads T.O_BadFrac T.E_BadFrac T.N_BadFrac ha fun dx h1 h2 => q dx h1 h2⟩
end KR
namespace KR
open PySem PySem.Spec PyProof.Rows L2
section
variable {P : Program} {w : World} {K : PySem.W.Frag} {mg : Str → Option Value} {base : Heap}
def sp_l_cell_at (K : PySem.W.Frag) : Sp := fun vs H Q _ => ∃ (a : Addr) (ns : List Int) (k : Int), vs = [.ref a, .int k] ∧ SqL K H a (ns.map V.int) ∧ 0 ≤ k ∧ ∀ z : Int, Q (.int z) H
theorem ok_l_cell_at (T : All K mg) : FnOk P w K mg base CX0 1 T.f_l_cell_at T.fd_l_cell_at ["_law_script", "_law_k"] (sp_l_cell_at K) := by
  refine T.d_l_cell_at.fn.ok sc_l_cell_at (fun vs H Q E h => ?_) (fun cdv A outer s H vs Q E hr h => ?_)
  · obtain ⟨a, ns, k, rfl, _⟩ := h
    rfl
  · obtain ⟨a, ns, k, rfl, hS, h0, q⟩ := h
    refine ⟨_, (pss_cons (ps_if (pt_cmpR op_lt (pv 1) (pe_callB (lenQ (K := K) rfl) (by rfl) T.b_len PySem.boot_len (pa_cons (pv 0) pa_nil)) (nomark _)) (pss_one (ps_ret (pe_ix (ixL (K := K) rfl) (pv 0) (pv 1) (fun _ _ => rfl)))) pss_nil)
      (pss_one (ps_ret pe_int))), ?_⟩
    refine ⟨_, rfl, _, rfl, a, _, rfl, .inl hS, _, _, rfl, rfl, _, rfl, ite2 (fun c => ?_) (fun c => ?_)⟩
    · have c1 : k < ((ns.map V.int).length : Int) := of_decide_eq_true c
      rw [List.length_map] at c1
      refine ⟨_, rfl, _, rfl, a, _, k, _, rfl, rfl, hS, at_of (j := k.toNat) (by omega) (by rw [List.getElem?_map, List.getElem?_eq_getElem (show k.toNat < ns.length by omega)]; rfl), ?_⟩
      exact q _
    · exact q _

end
end KR
namespace KR
open PySem PySem.Spec PyProof.Rows L2
section
variable {P : Program} {w : World} {K : PySem.W.Frag} {mg : Str → Option Value} {base : Heap}
def sp_l_box (K : PySem.W.Frag) : Sp := fun vs H Q _ => ∃ (a : Addr) (ns : List Int) (k : Int), vs = [.ref a, .int k] ∧ SqL K H a (ns.map V.int) ∧ 0 ≤ k ∧ k ≤ 63 ∧ ∀ p H', Same H H' → H p = none → BoxAt H' p 0 → Q (.ref p) H'
theorem ok_l_box (T : All K mg) : FnOk P w K mg base CX0 2 T.f_l_box T.fd_l_box ["_law_script", "_law_k"] (sp_l_box K) := by
  refine T.d_l_box.fn.ok sc_l_box (fun vs H Q E h => ?_) (fun cdv A outer s H vs Q E hr h => ?_)
  · obtain ⟨a, ns, k, rfl, _⟩ := h
    rfl
  · obtain ⟨a, ns, k, rfl, hS, h0, h1, q⟩ := h
    refine ⟨_, (pss_cons (ps_set (i := 2) sc_l_box.nd rfl (by first | exact Or.inl rfl | exact Or.inr rfl) (pe_call (ok_l_cell_at T) hr (by rfl) T.d_l_cell_at.mg T.d_l_cell_at.fn.kp T.d_l_cell_at.b .nil pass0 (pa_cons (pv 0) (pa_cons (pv 1) pa_nil))))
      (pss_one (ps_ret (pe_lstI (pa_cons (pe_op op_mulX (pe_callB call_abs (by rfl) T.b_abs (by decide +kernel) (pa_cons (pv 2) pa_nil)) (pe_callTy call_int1 (by rfl) T.b_int (by decide +kernel) (pa_cons (pe_cmpR op_ge (pe_callB call_abs (by rfl) T.b_abs (by decide +kernel) (pa_cons (pv 2) pa_nil)) (pe_op op_pow pe_int pe_int) (nomark _)) pa_nil))) (pa_cons (pe_op op_add (pe_op op_add (pe_op op_mod (pv 2) pe_int) (pe_op op_mulX pe_int (pv 1))) pe_int) (pa_cons pe_int pa_nil))))))), ?_⟩
    refine ⟨_, rfl, _, rfl, a, ns, k, rfl, hS, h0, fun z => ?_⟩
    refine ⟨_, rfl, _, rfl, _, rfl, _, rfl, _, _, rfl, rfl, ⟨by decide, by decide, by decide⟩, _, _, rfl, rfl, .inr ⟨_, rfl, ?_⟩⟩
    refine ⟨_, _, rfl, rfl, mulR bit_lt, ?_⟩
    refine ⟨_, rfl, _, _, rfl, rfl, (by show (0 : Int) < 2305843009213693951; decide), _, rfl, _, _, rfl, rfl, mulL (by decide), _, _, rfl, rfl, _, _, rfl, rfl, rfl, fun p H1 s1 hp h1 => ?_⟩
    refine q p _ s1 hp ⟨_, _, _, h1, ?_, ?_, ?_, by decide, by decide⟩
    · refine Int.mul_nonneg (by split <;> omega) bit_nn
    · omega
    · omega

end
end KR
namespace KR
open PySem PySem.Spec PyProof.Rows L2
section
variable {P : Program} {w : World} {K : PySem.W.Frag} {mg : Str → Option Value} {base : Heap}
def sp_l_take : Sp := fun vs H Q _ => ∃ (p : Addr) (m : Int) (n : Nat), vs = [.ref p, .int m] ∧ BoxAt H p n ∧ n ≤ 1000000000 ∧ 0 < m ∧ m.natAbs < 2 ^ 200 ∧ ∀ (z : Int) (H' : Hp), 0 ≤ z → z < m → BoxAt H' p (n + 1) → Fr p H H' → Q (.int z) H'
theorem ok_l_take (T : All K mg) : FnOk P w K mg base CX0 1 T.f_l_take T.fd_l_take ["_law_box_here", "_law_many"] sp_l_take := by
  refine T.d_l_take.fn.ok sc_l_take (fun vs H Q E h => ?_) (fun cdv A outer s H vs Q E hr h => ?_)
  · obtain ⟨p, m, n, rfl, _⟩ := h
    rfl
  · obtain ⟨p, m, n, rfl, hB, hn, h0, hm, q⟩ := h
    obtain ⟨a, b, c, hp, ha, hb, hb2, hc, hcn⟩ := hB
    refine ⟨_, (pss_cons (ps_if (pt_cmpR op_gt (pe_ix (ixL (K := K) rfl) (pv 0) pe_int (fun _ _ => rfl)) pe_int (nomark _)) (pss_cons (ps_set (i := 2) sc_l_take.nd rfl (by first | exact Or.inl rfl | exact Or.inr rfl) (pe_op op_mod (pe_ix (ixL (K := K) rfl) (pv 0) pe_int (fun _ _ => rfl)) (pv 1)))
      (pss_cons (ps_asg (pe_op op_fdivW (pe_ix (ixL (K := K) rfl) (pv 0) pe_int (fun _ _ => rfl)) (pv 1)) (pg_sub (pv 0) pe_int set_list))
      (pss_one (ps_ret (pv 2))))) pss_nil)
      (pss_cons (ps_asg (pe_op op_add (pe_ix (ixL (K := K) rfl) (pv 0) pe_int (fun _ _ => rfl)) pe_int) (pg_sub (pv 0) pe_int set_list))
      (pss_cons (ps_set (i := 3) sc_l_take.nd rfl (by first | exact Or.inl rfl | exact Or.inr rfl) (pe_op op_mod (pe_op op_mulX (pe_op op_add (pe_ix (ixL (K := K) rfl) (pv 0) pe_int (fun _ _ => rfl)) (pe_op op_mulX pe_int (pe_ix (ixL (K := K) rfl) (pv 0) pe_int (fun _ _ => rfl)))) (pe_op op_add pe_int (pe_ix (ixL (K := K) rfl) (pv 0) pe_int (fun _ _ => rfl)))) pe_int))
      (pss_cons (ps_set (i := 4) sc_l_take.nd rfl (by first | exact Or.inl rfl | exact Or.inr rfl) (pe_op op_mod (pe_op op_mulX (pe_op op_add (pv 3) (pe_ix (ixL (K := K) rfl) (pv 0) pe_int (fun _ _ => rfl))) (pe_op op_add (pe_op op_mod (pv 3) pe_int) pe_int)) pe_int))
      (pss_one (ps_ret (pe_op op_mod (pe_op op_fdivW (pe_op op_mod (pe_op op_add (pe_op op_mulX (pv 4) pe_int) (pv 3)) pe_int) pe_int) (pv 1)))))))), ?_⟩
    refine ⟨_, rfl, p, _, 0, _, rfl, rfl, SqL.of hp, at0, _, _, rfl, rfl, _, rfl, ite2 (fun c1 => ?_) (fun c1 => ?_)⟩
    · refine ⟨_, rfl, p, _, 0, _, rfl, rfl, SqL.of hp, at0, _, rfl, _, _, rfl, rfl, h0, ?_⟩
      refine ⟨_, rfl, p, _, 0, _, rfl, rfl, SqL.of hp, at0, _, rfl, _, _, rfl, rfl, wide_div h0 hm (by decide) (by decide), ?_⟩
      refine ⟨_, rfl, p, _, 0, 0, rfl, rfl, hp, rfl, ?_⟩
      refine ⟨_, rfl, ?_⟩
      refine q _ _ (Int.emod_nonneg _ (by omega)) (Int.emod_lt_of_pos _ h0) ⟨_, _, _, upd_same, ?_, hb, hb2, hc, by omega⟩ (Fr.put Fr.refl)
      exact Int.ediv_nonneg ha (by omega)
    · refine ⟨_, rfl, p, _, 2, _, rfl, rfl, SqL.of hp, at2, _, _, rfl, rfl, _, rfl, p, _, 2, 2, rfl, rfl, hp, rfl, ?_⟩
      have hp2 : (upd H p (.lst [.int a, .int b, .int (c + 1)])) p = some (.lst [.int a, .int b, .int (c + 1)]) := upd_same
      refine ⟨_, rfl, p, _, 1, _, rfl, rfl, SqL.of hp2, at1, _, rfl, p, _, 2, _, rfl, rfl, SqL.of hp2, at2, _, _, rfl, rfl, mulL (by decide), _, _, rfl, rfl, ?_⟩
      refine ⟨_, rfl, p, _, 2, _, rfl, rfl, SqL.of hp2, at2, _, _, rfl, rfl, _, _, rfl, rfl, mulL (by omega), _, _, rfl, rfl, (by show (0 : Int) < 2147483647; decide), ?_⟩
      generalize e1 : (b + 48271 * (c + 1)) * (39373 + (c + 1)) % 2147483647 = o
      have o1 : 0 ≤ o ∧ o < 2147483647 := by omega
      refine ⟨_, rfl, _, rfl, p, _, 2, _, rfl, rfl, SqL.of hp2, at2, _, _, rfl, rfl, _, rfl, _, _, rfl, rfl, (by show (0 : Int) < 40009; decide), _, _, rfl, rfl, _, _, rfl, rfl, mulL (by omega), _, _, rfl, rfl, (by show (0 : Int) < 2147483629; decide), ?_⟩
      generalize e2 : (o + (c + 1)) * (o % 40009 + 7) % 2147483629 = t
      have t1 : 0 ≤ t ∧ t < 2147483629 := by omega
      refine ⟨_, rfl, _, _, rfl, rfl, mulL (by omega), _, rfl, _, _, rfl, rfl, _, _, rfl, rfl, (by show (0 : Int) < 2147483587; decide), _, _, rfl, rfl, wide_div (b := 10) (by decide) (by decide) (by decide) (by decide), _, rfl, _, _, rfl, rfl, h0, ?_⟩
      exact q _ _ (Int.emod_nonneg _ (by omega)) (Int.emod_lt_of_pos _ h0) ⟨_, _, _, upd_same, ha, hb, hb2, by omega, by omega⟩ (Fr.put Fr.refl)

end
end KR
namespace KR
open PySem PySem.Spec PyProof.Rows L2
section
variable {P : Program} {w : World} {K : PySem.W.Frag} {mg : Str → Option Value} {base : Heap}
theorem ok_l_low (T : All K mg) : FnOk P w K mg base CX0 1 T.f_l_low T.fd_l_low ["_law_top", "_law_bottom"] sp_low := by
  refine T.d_l_low.fn.ok sc_l_low (fun vs H Q E h => ?_) (fun cdv A outer s H vs Q E hr h => ?_)
  · obtain ⟨t, b, rfl, _⟩ := h
    rfl
  · obtain ⟨t, b, rfl, hb, ht, hb2, q⟩ := h
    refine ⟨_, (pss_cons (ps_par (i := 2) (j := 3) (by rfl) sc_l_low.nd rfl rfl (by decide) rfl rfl (pa_cons (pe_callB call_abs (by rfl) T.b_abs (by decide +kernel) (pa_cons (pv 0) pa_nil)) (pa_cons (pe_callB call_abs (by rfl) T.b_abs (by decide +kernel) (pa_cons (pv 1) pa_nil)) pa_nil)) (by rfl))
      (pss_cons (ps_while PassesOwn.never (pt_cmpR op_gt (pv 3) pe_int (nomark _)) (pss_one (ps_par (i := 2) (j := 3) (by rfl) sc_l_low.nd rfl rfl (by decide) rfl rfl (pa_cons (pv 3) (pa_cons (pe_op op_mod (pv 2) (pv 3)) pa_nil)) (by rfl))))
      (pss_one (ps_ret (pe_tupI (pa_cons (pe_op op_mulX (pe_op op_fdivW (pv 0) (pv 2)) (pe_op op_sub pe_int (pe_op op_mulX pe_int (pe_callTy call_int1 (by rfl) T.b_int (by decide +kernel) (pa_cons (pe_cmpR op_lt (pv 1) pe_int (nomark _)) pa_nil))))) (pa_cons (pe_op op_fdivW (pe_callB call_abs (by rfl) T.b_abs (by decide +kernel) (pa_cons (pv 1) pa_nil)) (pv 2)) pa_nil))))))), ?_⟩
    have abs_ : ∀ z : Int, (if z < 0 then -z else z) = (z.natAbs : Int) := fun z => by split <;> omega
    refine ⟨_, rfl, _, rfl, _, rfl, _, rfl, _, _, rfl, ?_⟩
    rw [abs_, abs_]
    refine ⟨fun m σ H' => ∃ x y : Nat, σ = [some (.int t), some (.int b), some (.int x), some (.int y)] ∧ H' = H ∧ Nat.gcd x y = Nat.gcd t.natAbs b.natAbs ∧ m = y, ⟨_, _, _, rfl, rfl, rfl, rfl⟩, ?_⟩
    rintro m σ H' ⟨x, y, rfl, rfl, hg, rfl⟩
    refine ⟨_, rfl, _, _, rfl, rfl, _, rfl, ite2 (fun c => ?_) (fun c => ?_)⟩
    · have c1 : (0 : Int) < m := of_decide_eq_true c
      refine ⟨fun σ' H1 => ∃ x' y' : Nat, σ' = [some (.int t), some (.int b), some (.int x'), some (.int y')] ∧ H1 = H' ∧ Nat.gcd x' y' = Nat.gcd t.natAbs b.natAbs ∧ y' < m, fun σ' H1 ⟨x', y', e1, e2, e3, e4⟩ => ⟨y', e4, x', y', e1, e2, e3, rfl⟩, ?_⟩
      refine ⟨_, rfl, _, rfl, _, rfl, _, _, rfl, rfl, c1, _, _, rfl, ?_⟩
      refine ⟨m, x % m, by rw [Int.natCast_emod]; rfl, rfl, ?_, Nat.mod_lt _ (by omega)⟩
      rw [← hg, Nat.gcd_comm x m, Nat.gcd_rec m x, Nat.gcd_comm]
    · have c1 : ¬ (0 : Int) < m := of_decide_eq_false (Bool.eq_false_iff.mpr c)
      have m0 : m = 0 := by omega
      subst m0
      rw [Nat.gcd_zero_right] at hg
      have x0 : 0 < x := by
        rw [hg]
        exact Nat.gcd_pos_of_pos_right _ (by omega)
      have x1 : (x : Int).natAbs < 2 ^ 2000 := by
        rw [Int.natAbs_natCast, hg]
        exact Nat.lt_of_le_of_lt (Nat.le_of_dvd (by omega) (Nat.gcd_dvd_right _ _)) hb2
      refine ⟨_, rfl, _, rfl, _, _, rfl, rfl, wide_div (b := 2000) (by omega) x1 (by decide) (by decide), _, rfl, _, _, rfl, rfl, .inr ⟨_, rfl, ?_⟩⟩
      refine ⟨_, _, rfl, rfl, mulL (by decide), _, _, rfl, rfl, _, _, rfl, rfl, mulR (by rcases bit_or (c := decide (b < 0) = true) with z | z <;> rw [z] <;> decide), ?_⟩
      refine ⟨_, rfl, _, rfl, _, rfl, _, _, rfl, rfl, wide_div (b := 2000) (by omega) x1 (by decide) (by decide), rfl, fun p H1 s1 hp h1 => ?_⟩
      have e1 : t / (x : Int) * (1 - 2 * (if decide (b < 0) = true then 1 else 0)) = (low t b).1 := by
        unfold low
        rw [hg]
        by_cases z : b < 0
        · rw [if_pos (decide_eq_true z), if_pos z] <;> rfl
        · rw [if_neg (by rw [decide_eq_false z]; exact Bool.false_ne_true), if_neg z] <;> rfl
      have e2 : (if b < 0 then -b else b) / (x : Int) = (low t b).2 := by
        rw [abs_]
        unfold low
        rw [hg]
      refine q p H1 s1 hp ?_
      rw [← e1, ← e2]
      exact h1

end
end KR
namespace KR
open PySem PySem.Spec PyProof.Rows L2
section
variable {P : Program} {w : World} {K : PySem.W.Frag} {mg : Str → Option Value} {base : Heap}
def sp_l_frac : Sp := fun vs H Q _ => ∃ (p : Addr) (bl : Bool) (n : Nat), vs = [.ref p, .bl bl] ∧ BoxAt H p n ∧ n ≤ 999999000 ∧ ∀ (a : Addr) (t b : Int) (H' : Hp), IsLow t b → t.natAbs < 10 ^ 40 → b.natAbs < 10 ^ 40 → H' a = some (.tup [.int t, .int b]) → BoxAt H' p (n + 5) → Fr p H H' → Q (.ref a) H'
theorem ok_l_frac (T : All K mg) : FnOk P w K mg base CX0 2 T.f_l_frac T.fd_l_frac ["_law_box_here", "_law_below"] sp_l_frac := by
  refine T.d_l_frac.fn.ok sc_l_frac (fun vs H Q E h => ?_) (fun cdv A outer s H vs Q E hr h => ?_)
  · obtain ⟨p, bl, n, rfl, _⟩ := h
    rfl
  · obtain ⟨p, bl, n, rfl, hB, hn, q⟩ := h
    refine ⟨_, (pss_cons (ps_par (i := 2) (j := 3) (by rfl) sc_l_frac.nd rfl rfl (by decide) rfl rfl (pa_cons (pe_call (ok_l_take T) hr (by rfl) T.d_l_take.mg T.d_l_take.fn.kp T.d_l_take.b .nil pass0 (pa_cons (pv 0) (pa_cons pe_int pa_nil))) (pa_cons (pe_op op_sub pe_int (pe_op op_mulX (pe_op op_mulX pe_int (pe_call (ok_l_take T) hr (by rfl) T.d_l_take.mg T.d_l_take.fn.kp T.d_l_take.b .nil pass0 (pa_cons (pv 0) (pa_cons pe_int pa_nil)))) (pe_callTy call_int1 (by rfl) T.b_int (by decide +kernel) (pa_cons (pv 1) pa_nil)))) pa_nil)) (by rfl))
      (pss_cons (ps_if (pt_cmpR op_eq (pv 2) pe_int (nomark _)) (pss_one (ps_ret (pe_tupI (pa_cons (pe_op op_mulX (pe_call (ok_l_take T) hr (by rfl) T.d_l_take.mg T.d_l_take.fn.kp T.d_l_take.b .nil pass0 (pa_cons (pv 0) (pa_cons pe_int pa_nil))) (pv 3)) (pa_cons pe_int pa_nil))))) pss_nil)
      (pss_cons (ps_set (i := 4) sc_l_frac.nd rfl (by first | exact Or.inl rfl | exact Or.inr rfl) (pe_ix (ixL (K := K) rfl) (pe_lstI (pa_cons pe_int (pa_cons pe_int (pa_cons (pe_op op_pow pe_int pe_int) (pa_cons (pe_op op_sub (pe_op op_pow pe_int pe_int) pe_int) pa_nil))))) (pe_op op_sub (pv 2) pe_int) (fun _ _ => rfl)))
      (pss_one (ps_ret (pe_call (ok_l_low T) hr (by rfl) T.d_l_low.mg T.d_l_low.fn.kp T.d_l_low.b .nil pass0 (pa_cons (pe_op op_mulX (pe_op op_add (pe_call (ok_l_take T) hr (by rfl) T.d_l_take.mg T.d_l_take.fn.kp T.d_l_take.b .nil pass0 (pa_cons (pv 0) (pa_cons (pv 4) pa_nil))) (pe_call (ok_l_take T) hr (by rfl) T.d_l_take.mg T.d_l_take.fn.kp T.d_l_take.b .nil pass0 (pa_cons (pv 0) (pa_cons pe_int pa_nil)))) (pv 3)) (pa_cons (pe_op op_add pe_int (pe_call (ok_l_take T) hr (by rfl) T.d_l_take.mg T.d_l_take.fn.kp T.d_l_take.b .nil pass0 (pa_cons (pv 0) (pa_cons (pv 4) pa_nil)))) pa_nil)))))))), ?_⟩
    refine ⟨_, rfl, p, 5, n, rfl, hB, by omega, by decide, by decide, fun way H1 w0 w1 B1 F1 => ?_⟩
    refine ⟨_, rfl, p, 2, n + 1, rfl, B1, by omega, by decide, by decide, fun sg H2 s0 s1 B2 F2 => ?_⟩
    refine ⟨_, _, rfl, rfl, mulL (by decide), _, rfl, .inr ⟨_, rfl, ?_⟩⟩
    refine ⟨_, _, rfl, rfl, mulR bit_lt, _, _, rfl, rfl, _, _, rfl, ?_⟩
    have hsg : ∃ sn : Int, 1 - 2 * sg * (if bl = true then 1 else 0) = sn ∧ (sn = 1 ∨ sn = -1) := ⟨_, rfl, by split <;> omega⟩
    obtain ⟨sn, esn, hsn⟩ := hsg
    dsimp only
    rw [esn]
    refine ⟨_, rfl, rfl, _, rfl, ite2 (fun c => ?_) (fun c => ?_)⟩
    · refine ⟨_, rfl, p, 3, n + 2, rfl, B2, by omega, by decide, by decide, fun z H3 z0 z1 B3 F3 => ?_⟩
      refine ⟨_, rfl, _, _, rfl, rfl, mulL (by omega), rfl, fun a H4 s4 ha h4 => ?_⟩
      have zz : z * sn = z ∨ z * sn = -z := by
        rcases hsn with e | e <;> rw [e] <;> omega
      refine q a (z * sn) 1 _ ⟨by decide, ?_⟩ (by omega) (by decide) h4 ((B3.same s4).mono (by omega)) (((F1.trans F2).trans F3).trans (Fr.of s4))
      exact Nat.gcd_one_right _
    · have c0 : way ≠ 0 := fun e => c (by rw [e]; exact decide_eq_true rfl)
      refine ⟨_, _, rfl, rfl, ⟨by decide, by decide, by decide⟩, _, _, rfl, rfl, ⟨by decide, by decide, by decide⟩, _, _, rfl, rfl, rfl, fun l H3 s3 hl h3 => ?_⟩
      obtain ⟨m, em, h0, h1⟩ : ∃ m : Int, atI ([.int 12, .int 1000, .int (10 ^ (20 : Int).toNat), .int (10 ^ (40 : Int).toNat - 100)] : List V) (way - 1) = some (.int m) ∧ 0 < m ∧ m ≤ 10 ^ 40 - 100 := by
        have w2 : way = 1 ∨ way = 2 ∨ way = 3 ∨ way = 4 := by omega
        rcases w2 with e | e | e | e <;> subst e
        · exact ⟨_, rfl, by decide, by decide⟩
        · exact ⟨_, rfl, by decide, by decide⟩
        · exact ⟨_, rfl, by decide, by decide⟩
        · exact ⟨_, rfl, by decide, by decide⟩
      refine ⟨_, rfl, _, _, rfl, rfl, l, _, _, _, rfl, rfl, SqL.of h3, em, ?_⟩
      have h1' : m.natAbs < 2 ^ 200 := by omega
      refine ⟨_, rfl, _, rfl, p, m, n + 2, rfl, B2.same s3, by omega, h0, h1', fun z H4 z0 z1 B4 F4 => ?_⟩
      refine ⟨_, rfl, p, 2, n + 3, rfl, B4, by omega, by decide, by decide, fun y H5 y0 y1 B5 F5 => ?_⟩
      refine ⟨_, _, rfl, rfl, _, rfl, _, _, rfl, rfl, mulR (by omega), ?_⟩
      refine ⟨_, rfl, _, rfl, p, m, n + 4, rfl, B5, by omega, h0, h1', fun x H6 x0 x1 B6 F6 => ?_⟩
      have zz : (z + y) * sn = z + y ∨ (z + y) * sn = -(z + y) := by
        rcases hsn with e | e <;> rw [e] <;> omega
      have b1 : ((z + y) * sn).natAbs < 10 ^ 40 := by omega
      have b2 : (1 + x).natAbs < 10 ^ 40 := by omega
      refine ⟨_, _, rfl, rfl, _, _, rfl, by omega, lt_up (b40 b1) (by decide), lt_up (b40 b2) (by decide), fun a H7 s7 ha h7 => ?_⟩
      obtain ⟨k1, k2⟩ := low_le ((z + y) * sn) (1 + x)
      refine q a _ _ _ (low_facts _ _ (by omega)).1 (Nat.lt_of_le_of_lt k1 b1) (Nat.lt_of_le_of_lt k2 b2) h7 (B6.same s7) ?_
      exact (((((F1.trans F2).trans (.of s3)).trans F4).trans F5).trans F6).trans (.of s7)

end
end KR
namespace KR
open PySem PySem.Spec PyProof.Rows L2
section
variable {P : Program} {w : World} {K : PySem.W.Frag} {mg : Str → Option Value} {base : Heap}
def sp_p_is_number : Sp := fun vs H Q _ => ∃ (p : Addr) (n : Nat) (v : V) (d : PyData), vs = [v] ∧ Da p H n v d ∧ Q (.bl (isNumD d)) H
theorem ok_p_is_number (T : All K mg) : FnOk P w K mg base CX0 1 T.f_p_is_number T.fd_p_is_number ["thing"] sp_p_is_number := by
  refine T.d_p_is_number.fn.ok sc_p_is_number (fun vs H Q E h => ?_) (fun cdv A outer s H vs Q E hr h => ?_)
  · obtain ⟨p, n, v, d, rfl, _⟩ := h
    rfl
  · obtain ⟨p, n, v, d, rfl, hd, q⟩ := h
    refine ⟨_, (pss_one (ps_ret (pe_and (pe_callB (isiK (K := K) rfl) (by rfl) T.b_isinstance (by decide +kernel) (pa_cons (pv 0) (pa_cons (pe_bltn (v := .ty "int") (by rfl) T.b_int (by decide +kernel) rfl) pa_nil))) (pe_one (pe_not (pe_callB (isiK (K := K) rfl) (by rfl) T.b_isinstance (by decide +kernel) (pa_cons (pv 0) (pa_cons (pe_bltn (v := .ty "bool") (by rfl) T.b_bool (by decide +kernel) rfl) pa_nil)))))))), ?_⟩
    obtain ⟨t, k⟩ := hd.kinds (K := K)
    refine ⟨_, rfl, _, _, _, _, _, rfl, .ty _, k.ty, kit_ty k.int, _, rfl, ?_⟩
    unfold isNumD at q
    cases c : isIntD d with
    | false =>
      rw [c] at q
      exact iteF q
    | true =>
      rw [c] at q
      refine iteT ?_
      refine ⟨_, rfl, _, _, _, _, _, rfl, .ty _, k.ty, kit_ty k.bool, _, rfl, ?_⟩
      exact q

end
end KR
namespace KR
open PySem PySem.Spec PyProof.Rows L2
section
variable {P : Program} {w : World} {K : PySem.W.Frag} {mg : Str → Option Value} {base : Heap}
def sp_p_is_frac : Sp := fun vs H Q _ => ∃ (p : Addr) (n : Nat) (v : V) (d : PyData), vs = [v] ∧ Da p H n v d ∧ Q (.bl (isFracD d)) H
theorem ok_p_is_frac (T : All K mg) : FnOk P w K mg base CX0 2 T.f_p_is_frac T.fd_p_is_frac ["thing"] sp_p_is_frac := by
  refine T.d_p_is_frac.fn.ok sc_p_is_frac (fun vs H Q E h => ?_) (fun cdv A outer s H vs Q E hr h => ?_)
  · obtain ⟨p, n, v, d, rfl, _⟩ := h
    rfl
  · obtain ⟨p, n, v, d, rfl, hd, q⟩ := h
    refine ⟨_, (pss_cons (ps_if (PW.pt (pw_or (pt_not (pt_val (pe_callB (isiK (K := K) rfl) (by rfl) T.b_isinstance (by decide +kernel) (pa_cons (pv 0) (pa_cons (pe_bltn (v := .ty "tuple") (by rfl) T.b_tuple (by decide +kernel) rfl) pa_nil))))) (pw_or1 (pt_cmpR op_ne (pe_callB (lenQ (K := K) rfl) (by rfl) T.b_len PySem.boot_len (pa_cons (pv 0) pa_nil)) pe_int (nomark _))))) (pss_one (ps_ret pe_bl)) pss_nil)
      (pss_cons (ps_asg (pv 0) (pg_tupK (K := K) rfl rfl (pgs_cons (pg_name (i := 1) sc_p_is_frac.nd rfl (by first | exact Or.inl rfl | exact Or.inr rfl)) (pgs_cons (pg_name (i := 2) sc_p_is_frac.nd rfl (by first | exact Or.inl rfl | exact Or.inr rfl)) pgs_nil))))
      (pss_cons (ps_if (PW.pt (pw_or (pt_not (pt_val (pe_call (ok_p_is_number T) hr (by rfl) T.d_p_is_number.mg T.d_p_is_number.fn.kp T.d_p_is_number.b .nil pass0 (pa_cons (pv 1) pa_nil)))) (pw_or1 (pt_not (pt_val (pe_call (ok_p_is_number T) hr (by rfl) T.d_p_is_number.mg T.d_p_is_number.fn.kp T.d_p_is_number.b .nil pass0 (pa_cons (pv 2) pa_nil))))))) (pss_one (ps_ret pe_bl)) pss_nil)
      (pss_one (ps_ret (pe_and (pe_cmpR op_gt (pv 2) pe_int (nomark _)) (pe_one (pe_cmpR op_eq (pe_callBfun cr_gcd (by rfl) T.m_gcd (pa_cons (pv 1) (pa_cons (pv 2) pa_nil))) pe_int (nomark _))))))))), ?_⟩
    obtain ⟨t, k⟩ := hd.kinds (K := K)
    refine ⟨_, rfl, _, _, _, _, _, rfl, .ty _, k.ty, kit_ty k.tup, _, rfl, ?_⟩
    cases hd with
    | tup ne h1 h2 h3 h4 =>
      rename_i n a xs ds
      refine iteF ?_
      refine ⟨_, rfl, a, xs, rfl, .inr (SqT.of h1), rfl, _, rfl, ?_⟩
      by_cases two : xs.length = 2
      · refine ite_nF (by omega) ?_
        match xs, ds, two, h2, h1, h3, h4 with
        | [x, y], [dx, dy], _, _, h1, h3, h4 =>
          have X := h4 0 x dx rfl rfl
          have Y := h4 1 y dy rfl rfl
          refine ⟨_, rfl, a, _, rfl, SqT.of h1, rfl, _, _, rfl, _, _, rfl, rfl, ?_⟩
          refine ⟨_, rfl, p, n, x, dx, rfl, X, _, rfl, ?_⟩
          cases c1 : isNumD dx with
          | false =>
            rw [frac_no (.inl c1)] at q
            exact iteT (iteT q)
          | true =>
            refine iteF ?_
            refine ⟨_, rfl, p, n, y, dy, rfl, Y, _, rfl, ?_⟩
            cases c2 : isNumD dy with
            | false =>
              rw [frac_no (.inr c2)] at q
              exact iteT q
            | true =>
              refine iteF ?_
              obtain ⟨i, rfl, rfl⟩ := num_int X c1
              obtain ⟨j, rfl, rfl⟩ := num_int Y c2
              refine ⟨_, rfl, _, _, rfl, rfl, _, rfl, ?_⟩
              have q' : Q (.bl (decide (0 < j) && decide (Nat.gcd i.natAbs j.natAbs = 1))) H := q
              by_cases pos : 0 < j
              · rw [decide_eq_true pos] at q'
                refine ite_bT (decide_eq_true pos) ?_
                refine ⟨_, rfl, _, rfl, _, _, rfl, rfl, ?_⟩
                have e : decide (V.int ((Nat.gcd i.natAbs j.natAbs : Nat) : Int) = V.int 1) = decide (Nat.gcd i.natAbs j.natAbs = 1) := by
                  by_cases z : Nat.gcd i.natAbs j.natAbs = 1
                  · rw [decide_eq_true z, z] <;> rfl
                  · rw [decide_eq_false z, decide_eq_false fun y => z (by have := V.int.inj y; omega)]
                rw [e]
                exact q'
              · rw [decide_eq_false pos] at q'
                exact ite_bF (decide_eq_false pos) q'
      · refine ite_nT (by omega) ?_
        rw [frac_len (by omega)] at q
        exact q
    | non => exact iteT q
    | bl => exact iteT q
    | int => exact iteT q
    | str => exact iteT q
    | lst => exact iteT q

end
end KR
namespace KR
open PySem PySem.Spec PyProof.Rows L2
section
variable {P : Program} {w : World} {K : PySem.W.Frag} {mg : Str → Option Value} {base : Heap}
def sp_p_figures_of : Sp := fun vs H Q _ => ∃ n : Nat, vs = [.int (n : Int)] ∧ n < 10 ^ 64 ∧ ∀ H', Same H H' → Q (.str (S (TL.numL n))) H'
theorem ok_p_figures_of (T : All K mg) : FnOk P w K mg base CX0 1 T.f_p_figures_of T.fd_p_figures_of ["number"] sp_p_figures_of := by
  refine T.d_p_figures_of.fn.ok sc_p_figures_of (fun vs H Q E h => ?_) (fun cdv A outer s H vs Q E hr h => ?_)
  · obtain ⟨n, rfl, _⟩ := h
    rfl
  · obtain ⟨n, rfl, hn, q⟩ := h
    refine ⟨_, (pss_cons (ps_set (i := 1) sc_p_figures_of.nd rfl (by first | exact Or.inl rfl | exact Or.inr rfl) (pe_lstI pa_nil))
      (pss_cons (ps_while PassesOwn.never (pt_cmpR op_ge (pv 0) (pe_glob (v := .int 10000000000000000000000000000000000000000000000000000000000000000) rfl T.c_CHUNK ⟨_, rfl⟩) (nomark _)) (pss_cons ps_never
      (pss_one ps_never)))
      (pss_cons (ps_expr (pe_bm PySem.F.plainAttrs_list PySem.F.slot_list_append PySem.F.type_list_append mt_append (pv 1) (pa_cons (pe_callTy call_str_int (by rfl) T.b_str (by decide +kernel) (pa_cons (pv 0) pa_nil)) pa_nil)))
      (pss_one (ps_ret (pe_joinRev (K := K) rfl (by rfl) (by rfl) T.b_reversed pe_str (pv 1))))))), ?_⟩
    refine ⟨rfl, fun l H1 s1 n1 h1 => ?_⟩
    refine ⟨fun m σ H' => σ = [some (.int (n : Int)), some (.ref l), none] ∧ H' = H1, ⟨0, rfl, rfl⟩, ?_⟩
    rintro m σ H' ⟨rfl, rfl⟩
    refine ⟨_, rfl, _, _, rfl, rfl, _, rfl, ?_⟩
    have small64 : ¬ ((10000000000000000000000000000000000000000000000000000000000000000 : Int) ≤ (n : Int)) := by omega
    refine ite_bF (decide_eq_false small64) ?_
    have lg : (n : Int).natAbs.log2 < 1920 := by
      rw [Int.natAbs_natCast]
      have : n < 2 ^ 220 := by omega
      exact Nat.lt_trans (PySem.Flt.log2_lt_of (by decide) this) (by decide)
    refine ⟨_, rfl, .inl ⟨rfl, _, SqL.of h1⟩, _, rfl, _, rfl, lg, l, _, _, rfl, rfl, h1, by decide, ?_⟩
    refine ⟨⟨_, rfl⟩, _, rfl, "", l, [S (TL.numL n)], rfl, rfl, SqL.of (by rw [upd_same, num_S] <;> rfl), ?_, ?_⟩
    · show (S (TL.numL n)).length + 0 + 1 * ("" : Str).length ≤ 16777216
      have e1 : (S (TL.numL n)).length ≤ 64 := by
        rw [S_len]
        exact TL.numL_len (by decide) hn
      have e2 : ("" : Str).length = 0 := by decide +kernel
      omega
    · have e : Txt.join "" [S (TL.numL n)].reverse = S (TL.numL n) := by
        rw [TL.join_eq]
        rfl
      rw [e]
      exact q _ (Same.put s1 n1)

end
end KR
namespace KR
open PySem PySem.Spec PyProof.Rows L2
section
variable {P : Program} {w : World} {K : PySem.W.Frag} {mg : Str → Option Value} {base : Heap}
def sp_p_are_figures : Sp := fun vs H Q _ => ∃ (l : List Nat) (m : Nat), vs = [.str (S l), .int (m : Int)] ∧ l.length ≤ 100000 ∧ Q (.bl (decide (l.length ≤ m) && figs l)) H
theorem ok_p_are_figures (T : All K mg) : FnOk P w K mg base CX0 1 T.f_p_are_figures T.fd_p_are_figures ["text", "most"] sp_p_are_figures := by
  refine T.d_p_are_figures.fn.ok sc_p_are_figures (fun vs H Q E h => ?_) (fun cdv A outer s H vs Q E hr h => ?_)
  · obtain ⟨l, m, rfl, _⟩ := h
    rfl
  · obtain ⟨l, m, rfl, hl, q⟩ := h
    refine ⟨_, (pss_one (ps_ret (pe_and (pe_cmpR op_le (pe_callB call_len_str (by rfl) T.b_len PySem.boot_len (pa_cons (pv 0) pa_nil)) (pv 1) (nomark _)) (pe_and (pe_bm0 PySem.F.plainAttrs_str PySem.F.slot_str_isascii PySem.F.type_str_isascii mt_isascii (pv 0)) (pe_one (pe_bm0 PySem.F.plainAttrs_str PySem.F.slot_str_isdigit PySem.F.type_str_isdigit mt_isdigit (pv 0))))))), ?_⟩
    refine ⟨_, rfl, _, rfl, by rw [S_len]; exact small hl, _, rfl, _, _, rfl, rfl, _, rfl, ?_⟩
    have e : decide (((S l).length : Int) ≤ (m : Int)) = decide (l.length ≤ m) := by
      rw [S_len]
      by_cases c : l.length ≤ m
      · rw [decide_eq_true c, decide_eq_true (by omega)]
      · rw [decide_eq_false c, decide_eq_false (by omega)]
    rw [e]
    cases c : decide (l.length ≤ m) with
    | false =>
      rw [c] at q
      exact iteF q
    | true =>
      rw [c, Bool.true_and] at q
      refine iteT ?_
      refine ⟨_, rfl, rfl, _, rfl, rfl, trivial, _, rfl, ?_⟩
      rw [ascii_S]
      cases a : l.all (· < 128) with
      | false =>
        refine iteF ?_
        cases f : figs l with
        | false =>
          rw [f] at q
          exact q
        | true =>
          rw [figs_ascii f] at a
          cases a
      | true =>
        refine iteT ?_
        refine ⟨_, rfl, rfl, _, rfl, rfl, trivial, ?_⟩
        rw [digit_S a]
        exact q

end
end KR
namespace KR
open PySem PySem.Spec PyProof.Rows L2
section
variable {P : Program} {w : World} {K : PySem.W.Frag} {mg : Str → Option Value} {base : Heap}
def sp_p_frac_text (K : PySem.W.Frag) : Sp := fun vs H Q _ => ∃ (a : Addr) (t b : Int), vs = [.ref a] ∧ SqT K H a [.int t, .int b] ∧ t.natAbs < 10 ^ 64 ∧ 0 ≤ b ∧ b.natAbs < 10 ^ 64 ∧ ∀ H', Same H H' → Q (.str (S (fracL t b))) H'
theorem ok_p_frac_text (T : All K mg) : FnOk P w K mg base CX0 2 T.f_p_frac_text T.fd_p_frac_text ["one"] (sp_p_frac_text K) := by
  refine T.d_p_frac_text.fn.ok sc_p_frac_text (fun vs H Q E h => ?_) (fun cdv A outer s H vs Q E hr h => ?_)
  · obtain ⟨a, t, b, rfl, _⟩ := h
    rfl
  · obtain ⟨a, t, b, rfl, ha, ht, b0, hb, q⟩ := h
    refine ⟨_, (pss_cons (ps_asg (pv 0) (pg_tupK (K := K) rfl rfl (pgs_cons (pg_name (i := 1) sc_p_frac_text.nd rfl (by first | exact Or.inl rfl | exact Or.inr rfl)) (pgs_cons (pg_name (i := 2) sc_p_frac_text.nd rfl (by first | exact Or.inl rfl | exact Or.inr rfl)) pgs_nil))))
      (pss_cons (ps_set (i := 3) sc_p_frac_text.nd rfl (by first | exact Or.inl rfl | exact Or.inr rfl) (pe_call (ok_p_figures_of T) hr (by rfl) T.d_p_figures_of.mg T.d_p_figures_of.fn.kp T.d_p_figures_of.b .nil pass0 (pa_cons (pe_callB call_abs (by rfl) T.b_abs (by decide +kernel) (pa_cons (pv 1) pa_nil)) pa_nil)))
      (pss_cons (ps_J (ps_if (pt_cmpR op_lt (pv 1) pe_int (nomark _)) (pss_one (ps_set (i := 3) sc_p_frac_text.nd rfl (by first | exact Or.inl rfl | exact Or.inr rfl) (pe_op op_add_str pe_str (pv 3)))) pss_nil))
      (pss_cons (ps_J (ps_if (pt_cmpR op_ne (pv 2) pe_int (nomark _)) (pss_one (ps_set (i := 3) sc_p_frac_text.nd rfl (by first | exact Or.inl rfl | exact Or.inr rfl) (pe_op op_add_str (pe_op op_add_str (pv 3) pe_str) (pe_call (ok_p_figures_of T) hr (by rfl) T.d_p_figures_of.mg T.d_p_figures_of.fn.kp T.d_p_figures_of.b .nil pass0 (pa_cons (pv 2) pa_nil))))) pss_nil))
      (pss_one (ps_ret (pv 3))))))), ?_⟩
    refine ⟨_, rfl, a, _, rfl, ha, rfl, _, _, rfl, _, _, rfl, rfl, ?_⟩
    have abs_ : (if t < 0 then -t else t) = (t.natAbs : Int) := by split <;> omega
    refine ⟨_, rfl, _, rfl, t.natAbs, by rw [abs_] <;> rfl, ht, fun H1 s1 => ?_⟩
    have l1 : (TL.numL t.natAbs).length ≤ 64 := TL.numL_len (by decide) ht
    have l2 : (TL.numL b.natAbs).length ≤ 64 := TL.numL_len (by decide) hb
    -- the minus
    refine ⟨fun σ' H' => σ' = [some (.ref a), some (.int t), some (.int b), some (.str (S ((if t < 0 then [45] else []) ++ TL.numL t.natAbs)))] ∧ H' = H1, ?_, ?_⟩
    · rintro σ' H' ⟨rfl, rfl⟩
      refine ⟨fun σ' H2 => ∃ H3, σ' = [some (.ref a), some (.int t), some (.int b), some (.str (S (fracL t b)))] ∧ H2 = H3 ∧ Same H H3, ?_, ?_⟩
      · rintro σ' H2 ⟨H3, rfl, rfl, s3⟩
        exact ⟨_, rfl, q _ s3⟩
      · refine ⟨_, rfl, rfl, _, rfl, ?_⟩
        by_cases b1 : b = 1
        · refine ite_nF b1 ?_
          refine ⟨_, ?_, rfl, s1⟩
          unfold fracL
          rw [if_pos b1, List.append_nil]
        · refine ite_nT b1 ?_
          refine ⟨_, rfl, _, _, rfl, rfl, ?_, _, rfl, b.natAbs, by rw [show (b.natAbs : Int) = b by omega] <;> rfl, hb, fun H4 s4 => ?_⟩
          · rw [lit_stroke, S_len, S_len, List.length_append]
            have : (if t < 0 then [45] else [] : List Nat).length ≤ 1 := by split <;> decide
            exact small (by show _ + 1 ≤ 100000; omega)
          · refine ⟨_, _, rfl, rfl, ?_, ?_⟩
            · rw [lit_stroke, S_app, S_len, S_len, List.length_append, List.length_append]
              have : (if t < 0 then [45] else [] : List Nat).length ≤ 1 := by split <;> decide
              exact small (by show _ + 1 + _ ≤ 100000; omega)
            · refine ⟨_, ?_, rfl, s1.trans s4⟩
              unfold fracL
              rw [if_neg b1, lit_stroke, S_app, S_app, List.append_assoc, List.append_assoc]
              rfl
    · refine ⟨_, rfl, _, _, rfl, rfl, _, rfl, ?_⟩
      by_cases t0 : t < 0
      · refine ite_bT (decide_eq_true t0) ?_
        refine ⟨_, rfl, _, _, rfl, rfl, ?_, ?_⟩
        · rw [lit_minus, S_len, S_len]
          exact small (by show 1 + _ ≤ 100000; omega)
        · refine ⟨?_, rfl⟩
          rw [if_pos t0, lit_minus, S_app]
          rfl
      · refine ite_bF (decide_eq_false t0) ?_
        refine ⟨?_, rfl⟩
        rw [if_neg t0]
        rfl

end
end KR
namespace KR
open PySem PySem.Spec PyProof.Rows L2
section
variable {P : Program} {w : World} {K : PySem.W.Frag} {mg : Str → Option Value} {base : Heap}
/-- what a text reads as -/
def bareL (l : List Nat) : List Nat := if l.head? = some 45 then l.tail else l
def botL (l : List Nat) : List Nat := if (cutL (bareL l)).2.1 = true then (cutL (bareL l)).2.2 else [49]
def okL (l : List Nat) : Bool := decide (l.length ≤ 40) && figs l
def readL (l : List Nat) : Option (Int × Int) :=
  if okL (cutL (bareL l)).1 = true then if okL (botL l) = true then some (if l.head? = some 45 then -((NumText.digitsVal (cutL (bareL l)).1 : Nat) : Int) else ((NumText.digitsVal (cutL (bareL l)).1 : Nat) : Int), ((NumText.digitsVal (botL l) : Nat) : Int)) else none else none
theorem bare_len (l : List Nat) : (bareL l).length ≤ l.length := by
  unfold bareL
  split
  · rw [List.length_tail]
    omega
  · exact Nat.le_refl _
theorem part_S (m : List Nat) : ∃ x, Txt.partition (S m) (S [47]) = (S (cutL m).1, x, S (cutL m).2.2) ∧ x.length ≤ 1 ∧ ((x.length : Int) != 0) = (cutL m).2.1 := by
  rcases cut_ways m with ⟨h, e⟩ | ⟨a, b, rfl, h, e⟩
  · refine ⟨Str.empty, ?_, by decide +kernel, ?_⟩
    · rw [e, TL.partition_none (s := 47) (S := []) rfl h, lit_empty]
    · rw [e]
      show ((Str.empty.length : Int) != 0) = false
      decide +kernel
  · refine ⟨S [47], ?_, by decide +kernel, ?_⟩
    · rw [e, show S (a ++ 47 :: b) = S a ++ S [47] ++ S b by rw [S_app, S_app, List.append_assoc] <;> rfl, TL.partition_app (s := 47) (S := []) rfl h]
    · rw [e]
      show (((S [47]).length : Int) != 0) = true
      decide +kernel
theorem cut_len (m : List Nat) : (cutL m).1.length ≤ m.length ∧ (cutL m).2.2.length ≤ m.length := by
  rcases cut_ways m with ⟨h, e⟩ | ⟨a, b, rfl, h, e⟩
  · rw [e]
    exact ⟨Nat.le_refl _, Nat.zero_le _⟩
  · rw [e, List.length_append, List.length_cons]
    exact ⟨by show a.length ≤ _; omega, by show b.length ≤ _; omega⟩
theorem okL_fits {l : List Nat} (h : okL l = true) : PySem.intText? (S l) = some ((NumText.digitsVal l : Nat) : Int) ∧ (S l).length ≤ 640 := by
  unfold okL at h
  rw [Bool.and_eq_true] at h
  have z := of_decide_eq_true h.1
  exact ⟨figs_int h.2 (by omega), by rw [S_len]; omega⟩
def sp_p__read : Sp := fun vs H Q _ => ∃ l : List Nat, vs = [.str (S l)] ∧ l.length ≤ 1000 ∧ (readL l = none → ∀ H', Same H H' → Q .non H') ∧ (∀ t b, readL l = some (t, b) → ∀ p H', Same H H' → H p = none → H' p = some (.tup [.int t, .int b]) → Q (.ref p) H')
theorem ok_p__read (T : All K mg) : FnOk P w K mg base CX0 2 T.f_p__read T.fd_p__read ["text"] sp_p__read := by
  refine T.d_p__read.fn.ok sc_p__read (fun vs H Q E h => ?_) (fun cdv A outer s H vs Q E hr h => ?_)
  · obtain ⟨l, rfl, _⟩ := h
    rfl
  · obtain ⟨l, rfl, hl, qn, qs⟩ := h
    refine ⟨_, (pss_cons (ps_asg (pe_partition (pe_bm PySem.F.plainAttrs_str PySem.F.slot_str_removeprefix PySem.F.type_str_removeprefix mt_removeprefix (pv 0) (pa_cons pe_str pa_nil)) pe_str) (pg_tupK (K := K) rfl rfl (pgs_cons (pg_name (i := 1) sc_p__read.nd rfl (by first | exact Or.inl rfl | exact Or.inr rfl)) (pgs_cons (pg_name (i := 2) sc_p__read.nd rfl (by first | exact Or.inl rfl | exact Or.inr rfl)) (pgs_cons (pg_name (i := 3) sc_p__read.nd rfl (by first | exact Or.inl rfl | exact Or.inr rfl)) pgs_nil)))))
      (pss_cons (ps_J (ps_if (pt_not (pt_truth (pv 2) (by intro _; rfl))) (pss_one (ps_set (i := 3) sc_p__read.nd rfl (by first | exact Or.inl rfl | exact Or.inr rfl) pe_str)) pss_nil))
      (pss_cons (ps_if (PW.pt (pw_or (pt_not (pt_val (pe_call (ok_p_are_figures T) hr (by rfl) T.d_p_are_figures.mg T.d_p_are_figures.fn.kp T.d_p_are_figures.b .nil pass0 (pa_cons (pv 1) (pa_cons (pe_glob (v := .int 40) rfl T.c_MOST_FIGURES ⟨_, rfl⟩) pa_nil))))) (pw_or1 (pt_not (pt_val (pe_call (ok_p_are_figures T) hr (by rfl) T.d_p_are_figures.mg T.d_p_are_figures.fn.kp T.d_p_are_figures.b .nil pass0 (pa_cons (pv 3) (pa_cons (pe_glob (v := .int 40) rfl T.c_MOST_FIGURES ⟨_, rfl⟩) pa_nil)))))))) (pss_one (ps_ret pe_non)) pss_nil)
      (pss_cons (ps_if (pt_val (pe_bm PySem.F.plainAttrs_str PySem.F.slot_str_startswith PySem.F.type_str_startswith mt_startswith (pv 0) (pa_cons pe_str pa_nil))) (pss_one (ps_ret (pe_tupI (pa_cons (pe_un un_neg (pe_callTy call_int_str (by rfl) T.b_int (by decide +kernel) (pa_cons (pv 1) pa_nil))) (pa_cons (pe_callTy call_int_str (by rfl) T.b_int (by decide +kernel) (pa_cons (pv 3) pa_nil)) pa_nil))))) pss_nil)
      (pss_one (ps_ret (pe_tupI (pa_cons (pe_callTy call_int_str (by rfl) T.b_int (by decide +kernel) (pa_cons (pv 1) pa_nil)) (pa_cons (pe_callTy call_int_str (by rfl) T.b_int (by decide +kernel) (pa_cons (pv 3) pa_nil)) pa_nil))))))))), ?_⟩
    have hb := bare_len l
    have hc := cut_len (bareL l)
    refine ⟨_, rfl, rfl, _, _, rfl, rfl, by rw [S_len]; exact small (by omega), ⟨_, rfl⟩, _, _, rfl, rfl, by decide +kernel, ?_, fun p hp => ?_⟩
    · rw [lit_minus, prefix_minus, S_len]
      exact small (by show (bareL l).length ≤ 100000; omega)
    rw [lit_minus, prefix_minus, lit_stroke]
    obtain ⟨x, ex, x1, xt⟩ := part_S (bareL l)
    have ex' : Txt.partition (S (if l.head? = some 45 then l.tail else l)) (S [47]) = _ := ex
    rw [ex']
    generalize eH : upd H p (.tup [.str (S (cutL (bareL l)).1), .str x, .str (S (cutL (bareL l)).2.2)]) = H1
    have s1 : Same H H1 := by rw [← eH]; exact same_new hp
    have h1 : H1 p = some (.tup [.str (S (cutL (bareL l)).1), .str x, .str (S (cutL (bareL l)).2.2)]) := by rw [← eH]; exact upd_same
    refine ⟨p, _, rfl, SqT.of h1, rfl, _, _, rfl, _, _, rfl, _, _, rfl, rfl, ?_⟩
    refine ⟨fun σ' H' => σ' = [some (.str (S l)), some (.str (S (cutL (bareL l)).1)), some (.str x), some (.str (S (botL l)))] ∧ H' = H1, ?_, ?_⟩
    · rintro σ' H' ⟨rfl, rfl⟩
      have lb : (botL l).length ≤ 1000 := by
        unfold botL
        split
        · omega
        · show 1 ≤ 1000
          decide
      refine ⟨_, rfl, _, 40, rfl, by omega, ?_⟩
      refine ⟨_, rfl, ?_⟩
      show if (!okL (cutL (bareL l)).1) = true then _ else _
      cases c1 : okL (cutL (bareL l)).1 with
      | false =>
        refine iteT ?_
        exact qn (by unfold readL; rw [c1]; rfl) _ s1
      | true =>
        refine iteF ?_
        refine ⟨_, rfl, _, 40, rfl, by omega, ?_⟩
        refine ⟨_, rfl, ?_⟩
        show if (!okL (botL l)) = true then _ else _
        cases c2 : okL (botL l) with
        | false =>
          refine iteT ?_
          exact qn (by unfold readL; rw [c1, c2]; rfl) _ s1
        | true =>
          refine iteF ?_
          obtain ⟨i1, i2⟩ := okL_fits c1
          obtain ⟨j1, j2⟩ := okL_fits c2
          refine ⟨_, rfl, rfl, _, _, rfl, rfl, _, rfl, ?_⟩
          rw [starts_minus]
          have er : readL l = some (if l.head? = some 45 then -((NumText.digitsVal (cutL (bareL l)).1 : Nat) : Int) else ((NumText.digitsVal (cutL (bareL l)).1 : Nat) : Int), ((NumText.digitsVal (botL l) : Nat) : Int)) := by
            unfold readL
            rw [if_pos c1, if_pos c2]
          by_cases m : l.head? = some 45
          · refine ite_bT (by rw [m] <;> rfl) ?_
            refine ⟨_, rfl, _, _, rfl, i1, i2, _, rfl, _, rfl, _, _, rfl, j1, j2, rfl, fun q H2 s2 n2 h2 => ?_⟩
            rw [if_pos m] at er
            exact qs _ _ er q H2 (s1.trans s2) (by
              cases e : H q with
              | none => rfl
              | some u =>
                rw [s1 _ _ e] at n2
                cases n2) h2
          · refine ite_bF (by rw [beq_eq_false_iff_ne]; exact m) ?_
            refine ⟨_, rfl, _, _, rfl, i1, i2, _, rfl, _, _, rfl, j1, j2, rfl, fun q H2 s2 n2 h2 => ?_⟩
            rw [if_neg m] at er
            exact qs _ _ er q H2 (s1.trans s2) (by
              cases e : H q with
              | none => rfl
              | some u =>
                rw [s1 _ _ e] at n2
                cases n2) h2
    · refine ⟨_, rfl, _, ⟨small (by omega), rfl⟩, ?_⟩
      rw [xt]
      cases c : (cutL (bareL l)).2.1 with
      | true =>
        refine iteF ?_
        refine ⟨?_, rfl⟩
        rw [show botL l = (cutL (bareL l)).2.2 from if_pos c]
        rfl
      | false =>
        refine iteT ?_
        refine ⟨?_, rfl⟩
        rw [show botL l = [49] from if_neg (by rw [c]; exact Bool.false_ne_true), ← lit_one]
        rfl

end
end KR
namespace KR
open PySem PySem.Spec PyProof.Rows L2
section
variable {P : Program} {w : World} {K : PySem.W.Frag} {mg : Str → Option Value} {base : Heap}
/-! ### one text of figures, as this law reads it -/
theorem dec_S (l m : List Nat) : decide (V.str (S l) = V.str (S m)) = decide (l = m) := by
  by_cases h : l = m
  · rw [decide_eq_true h, h, decide_eq_true rfl]
  · rw [decide_eq_false h, decide_eq_false fun e => h (S_inj (V.str.inj e))]
theorem strip_tl (p : Nat → Bool) (l : List Nat) : TL.tl (Txt.stripBy p true true (S l)) = (l.drop (l.takeWhile p).length).take (l.length - ((l.drop (l.takeWhile p).length).reverse.takeWhile p).length - (l.takeWhile p).length) := by
  have e0 : PySem.stripLo p true (S l) = (l.takeWhile p).length := rfl
  have e1 : PySem.stripHi p true (S l) (l.takeWhile p).length = l.length - ((l.drop (l.takeWhile p).length).reverse.takeWhile p).length := by
    rw [← S_len l]
    rfl
  unfold Txt.stripBy PySem.stripSame PySem.stripped
  rw [e0, e1]
  by_cases c : ((l.takeWhile p).length == 0 && l.length - ((l.drop (l.takeWhile p).length).reverse.takeWhile p).length == (S l).length) = true
  · rw [if_pos c]
    rw [Bool.and_eq_true, beq_iff_eq, beq_iff_eq, S_len] at c
    rw [c.2, c.1, List.drop_zero, Nat.sub_zero, List.take_length]
  · rw [if_neg c]
    show ((S l).cps.extract _ _).toList = _
    rw [Array.toList_extract]
theorem tw_all {p : Nat → Bool} : ∀ {l : List Nat}, (l.takeWhile p).length = l.length → l.all p = true
  | [], _ => rfl
  | c :: r, h => by
    rw [List.takeWhile_cons] at h
    by_cases e : p c = true
    · rw [if_pos e, List.length_cons, List.length_cons] at h
      rw [List.all_cons, e, tw_all (l := r) (by omega)] <;> rfl
    · rw [if_neg e] at h
      cases h
theorem tw_le {p : Nat → Bool} (l : List Nat) : (l.takeWhile p).length ≤ l.length := List.Sublist.length_le (List.takeWhile_sublist p)
theorem tw_pos {p : Nat → Bool} {l : List Nat} (h : l.all p = true) : l.takeWhile p = l := by
  induction l with
  | nil => rfl
  | cons c r ih =>
    rw [List.all_cons, Bool.and_eq_true] at h
    rw [List.takeWhile_cons, if_pos h.1, ih h.2]
theorem strip_none (p : Nat → Bool) (l : List Nat) : (Txt.stripBy p true true (S l) = S []) ↔ l.all p = true := by
  constructor
  · intro e
    have t := strip_tl p l
    rw [e] at t
    have t' : ([] : List Nat).length = _ := congrArg List.length t
    rw [List.length_take, List.length_drop, List.length_nil] at t'
    have h1 := tw_le (p := p) l
    have h2 := tw_le (p := p) (l.drop (l.takeWhile p).length).reverse
    rw [List.length_reverse, List.length_drop] at h2
    by_cases z : (l.takeWhile p).length = l.length
    · exact tw_all z
    · exfalso
      have e3 : ((l.drop (l.takeWhile p).length).reverse.takeWhile p).length = (l.drop (l.takeWhile p).length).reverse.length := by
        rw [List.length_reverse, List.length_drop]
        omega
      have al := tw_all e3
      rw [List.all_reverse] at al
      have all2 : l.all p = true := by
        rw [← List.take_append_drop (l.takeWhile p).length l, List.all_append, al, Bool.and_true]
        have e4 : l.take (l.takeWhile p).length = l.takeWhile p := by
          exact (List.prefix_iff_eq_take.mp (List.takeWhile_prefix p)).symm
        rw [e4]
        exact List.all_takeWhile
      exact z (by rw [tw_pos all2])
  · intro h
    apply TL.ext_tl
    rw [strip_tl, tw_pos h, List.drop_length, List.take_nil]
def digC (c : Nat) : Bool := decide (48 ≤ c) && decide (c ≤ 57)
theorem has_dig (c : Nat) : ("0123456789" : Str).cps.contains c = digC c := by
  rw [lit_digits, ← Array.contains_toList]
  unfold digC
  have h : c < 48 ∨ c = 48 ∨ c = 49 ∨ c = 50 ∨ c = 51 ∨ c = 52 ∨ c = 53 ∨ c = 54 ∨ c = 55 ∨ c = 56 ∨ c = 57 ∨ 57 < c := by omega
  rcases h with h | h | h | h | h | h | h | h | h | h | h | h
  case inl =>
    rw [decide_eq_false (by omega), Bool.false_and]
    rw [List.contains_eq_mem, decide_eq_false]
    intro m
    simp only [List.mem_cons, List.not_mem_nil, or_false] at m
    omega
  case inr.inr.inr.inr.inr.inr.inr.inr.inr.inr.inr =>
    rw [decide_eq_false (by omega : ¬ c ≤ 57), Bool.and_false]
    rw [List.contains_eq_mem, decide_eq_false]
    intro m
    simp only [List.mem_cons, List.not_mem_nil, or_false] at m
    omega
  all_goals
    subst h
    rfl
theorem strip_dig (l : List Nat) : decide (V.str (Txt.stripChars (S l) "0123456789") = V.str (S [])) = l.all digC := by
  have e : (Txt.stripChars (S l) "0123456789" = S []) ↔ l.all digC = true := by
    unfold Txt.stripChars
    rw [show ("0123456789" : Str).cps.contains = digC from funext has_dig]
    exact strip_none digC l
  cases c : l.all digC with
  | true => rw [e.mpr c, decide_eq_true rfl]
  | false => exact decide_eq_false fun z => by rw [e.mp (V.str.inj z)] at c; cases c
theorem idx_dig : ∀ c, c < 10 → Builtin.Str.occurrences "0123456789" ⟨#[48 + c]⟩ 0 ("0123456789" : Str).length 1 = [c] := by decide +kernel
/-- a walk over a text's signs -/
theorem for_str {x : Str} {g : TG} {tb : TS} {D : Ends} {σ : L2.St} {H : Hp} (Pv : Nat → L2.St → Hp → Prop) (h0 : Pv 0 σ H)
    (hs : ∀ i c σ H, (TL.tl x)[i]? = some c → Pv i σ H → g (.str ⟨#[c]⟩) σ H fun σ2 H2 => tb { D with nx := Pv (i + 1), ct := Pv (i + 1), bk := D.nx } σ2 H2) (hd : ∀ σ H, Pv (TL.tl x).length σ H → D.nx σ H) :
    ∃ W : Nat → Nat → L2.St → Hp → Prop, (∃ m, W 0 m σ H) ∧ ∀ i m σ H, W i m σ H →
      ((Its x).stop i H ∧ D.nx σ H) ∨ ((Its x).go i H ∧ ∃ N : L2.St → Hp → Prop, (∀ σ' H', N σ' H' → ∃ m', m' < m ∧ W (i + 1) m' σ' H') ∧ ∀ v H', (Its x).yld i H v H' → g v σ H' fun σ2 H2 => tb { D with nx := N, ct := N, bk := D.nx } σ2 H2) := by
  have sz : x.cps.size = (TL.tl x).length := (Array.length_toList).symm
  refine ⟨fun i m σ H => m = (TL.tl x).length - i ∧ i ≤ (TL.tl x).length ∧ Pv i σ H, ⟨(TL.tl x).length, by simp, Nat.zero_le _, h0⟩, ?_⟩
  rintro i m σ H ⟨rfl, hi, p⟩
  by_cases hlt : i < (TL.tl x).length
  · refine .inr ⟨by show i < x.cps.size; omega, Pv (i + 1), fun σ' H' p' => ⟨(TL.tl x).length - (i + 1), by omega, rfl, hlt, p'⟩, fun v H' y => ?_⟩
    obtain ⟨e, c, ec, ev⟩ := y
    subst e ev
    exact hs i c σ _ (by rw [← ec]; exact Array.getElem?_toList) p
  · have e : i = (TL.tl x).length := by omega
    subst e
    exact .inl ⟨by show x.cps.size ≤ _; omega, hd σ H p⟩
def numD (l : List Nat) : Option Nat := if l ≠ [] ∧ l.all digC = true ∧ l.length ≤ 40 ∧ ¬ (l.head? = some 48 ∧ l ≠ [48]) then some (NumText.digitsVal l) else none
def optV : Option Nat → V
  | none => .non
  | some n => .int n
def sp_l_number : Sp := fun vs H Q _ => ∃ l : List Nat, vs = [.str (S l)] ∧ l.length ≤ 100000 ∧ Q (optV (numD l)) H
theorem ok_l_number (T : All K mg) : FnOk P w K mg base CX0 1 T.f_l_number T.fd_l_number ["_law_word"] sp_l_number := by
  refine T.d_l_number.fn.ok sc_l_number (fun vs H Q E h => ?_) (fun cdv A outer s H vs Q E hr h => ?_)
  · obtain ⟨l, rfl, _⟩ := h
    rfl
  · obtain ⟨l, rfl, hl, q⟩ := h
    refine ⟨_, (pss_cons (ps_if (PW.pt (pw_or (pt_cmpR op_eq (pv 0) pe_str (nomark _)) (pw_or (pt_cmpR op_ne (pe_bm PySem.F.plainAttrs_str PySem.F.slot_str_strip PySem.F.type_str_strip mt_stripChars (pv 0) (pa_cons pe_str pa_nil)) pe_str (nomark _)) (pw_or (pt_cmpR op_gt (pe_callB call_len_str (by rfl) T.b_len PySem.boot_len (pa_cons (pv 0) pa_nil)) pe_int (nomark _)) (pw_or1 (PW.pt (pw_and (pt_cmpR op_eq (pe_ix ix_str (pv 0) pe_int (fun _ _ => rfl)) pe_str (nomark _)) (pw_and1 (pt_cmpR op_ne (pv 0) pe_str (nomark _)))))))))) (pss_one (ps_ret pe_non)) pss_nil)
      (pss_cons (ps_set (i := 1) sc_l_number.nd rfl (by first | exact Or.inl rfl | exact Or.inr rfl) pe_int)
      (pss_cons (ps_for PassesOwn.never rfl (pi_str (pv 0)) (pg_name (i := 2) sc_l_number.nd rfl (by first | exact Or.inl rfl | exact Or.inr rfl)) (pss_one (ps_set (i := 1) sc_l_number.nd rfl (by first | exact Or.inl rfl | exact Or.inr rfl) (pe_op op_add (pe_op op_mulX (pv 1) pe_int) (pe_bm PySem.F.plainAttrs_str PySem.F.slot_str_index PySem.F.type_str_index mt_sindex pe_str (pa_cons (pv 2) pa_nil))))))
      (pss_one (ps_ret (pv 1)))))), ?_⟩
    have no : ∀ {l}, ¬ (l ≠ [] ∧ l.all digC = true ∧ l.length ≤ 40 ∧ ¬ (l.head? = some 48 ∧ l ≠ [48])) → optV (numD l) = .non := fun h => by
      unfold numD
      rw [if_neg h]
      rfl
    refine ⟨_, rfl, rfl, _, rfl, ?_⟩
    rw [lit_none, dec_S]
    by_cases l0 : l = []
    · rw [no fun h => h.1 l0] at q
      refine ite_bT (decide_eq_true l0) (iteT ?_)
      exact q
    · refine ite_bF (decide_eq_false l0) ?_
      refine ⟨_, rfl, rfl, _, _, rfl, rfl, by rw [S_len]; exact small hl, rfl, _, rfl, ?_⟩
      rw [strip_dig]
      cases ad : l.all digC with
      | false =>
        rw [no fun h => by rw [ad] at h; cases h.2.1] at q
        exact iteT (iteT q)
      | true =>
        refine iteF ?_
        refine ⟨_, rfl, _, rfl, by rw [S_len]; exact small hl, _, _, rfl, rfl, _, rfl, ?_⟩
        rw [S_len]
        by_cases len : l.length ≤ 40
        · refine ite_bF (decide_eq_false (by omega)) ?_
          obtain ⟨c0, r, rfl⟩ : ∃ c r, l = c :: r := by
            cases l with
            | nil => exact absurd rfl l0
            | cons c r => exact ⟨c, r, rfl⟩
          refine ⟨_, rfl, _, _, c0, rfl, rfl, by rw [S_len]; exact small hl, atI_nat (j := 0) rfl, rfl, _, rfl, ?_⟩
          rw [lit_zero, show (⟨#[c0]⟩ : Str) = S [c0] from rfl, dec_S]
          by_cases z : c0 = 48
          case' pos =>
            refine ite_bT (decide_eq_true (by rw [z])) ?_
            refine ⟨_, rfl, rfl, _, rfl, ?_⟩
            rw [dec_S]
            by_cases one : c0 :: r = [48]
            case neg =>
              rw [no fun h => h.2.2.2 ⟨by rw [z] <;> rfl, one⟩] at q
              refine ite_bT (by rw [decide_eq_false one] <;> rfl) ?_
              exact q
            have good : ¬ ((c0 :: r).head? = some 48 ∧ c0 :: r ≠ [48]) := fun h => h.2 one
            refine ite_bF (by rw [decide_eq_true one] <;> rfl) ?_
          case' neg =>
            have good : ¬ ((c0 :: r).head? = some 48 ∧ c0 :: r ≠ [48]) := fun h => z (Option.some.inj h.1)
            refine ite_bF (decide_eq_false fun e => z (List.cons.inj e).1) ?_
            refine iteF ?_
          all_goals
            have num : numD (c0 :: r) = some (NumText.digitsVal (c0 :: r)) := if_pos ⟨l0, ad, len, good⟩
            rw [num] at q
            refine ⟨_, rfl, _, rfl, for_str (fun i σ H' => ∃ v : Option V, σ = [some (.str (S (c0 :: r))), some (.int ((NumText.digitsVal ((c0 :: r).take i) : Nat) : Int)), v] ∧ H' = H) ?_ ?_ ?_⟩
            · exact ⟨none, rfl, rfl⟩
            · rintro i c σ H' hc ⟨v, rfl, rfl⟩
              have hc' : (c0 :: r)[i]? = some c := hc
              have dc : digC c = true := List.all_eq_true.mp ad c (List.mem_of_getElem? hc')
              unfold digC at dc
              rw [Bool.and_eq_true] at dc
              have d1 := of_decide_eq_true dc.1
              have d2 := of_decide_eq_true dc.2
              refine ⟨_, rfl, _, _, rfl, rfl, mulR (by decide), rfl, _, rfl, _, _, c - 48, [], rfl, rfl, ?_, _, _, rfl, rfl, ?_⟩
              · have e : c = 48 + (c - 48) := by omega
                rw [e, Nat.add_sub_cancel_left]
                exact idx_dig (c - 48) (by omega)
              · refine ⟨some (.str ⟨#[c]⟩), ?_, rfl⟩
                have e : ((NumText.digitsVal ((c0 :: r).take (i + 1)) : Nat) : Int) = ((NumText.digitsVal ((c0 :: r).take i) : Nat) : Int) * 10 + ((c - 48 : Nat) : Int) := by
                  rw [List.take_add_one, hc', Option.toList_some, NumText.digitsVal_snoc, Int.natCast_add, Int.natCast_mul]
                  rfl
                rw [e]
                rfl
            · rintro σ H' ⟨v, rfl, rfl⟩
              rw [show (TL.tl (S (c0 :: r))).length = (c0 :: r).length from rfl, List.take_length]
              exact ⟨_, rfl, q⟩
        · refine ite_bT (decide_eq_true (by omega)) ?_
          rw [no fun h => len h.2.2.1] at q
          exact iteT q

end
end KR
namespace KR
open PySem PySem.Spec PyProof.Rows L2
section
variable {P : Program} {w : World} {K : PySem.W.Frag} {mg : Str → Option Value} {base : Heap}
/-! ### this law's own reading: a text is a fraction's, or none's -/
structure Frac9 (l : List Nat) (t b : Int) : Prop where
  low : IsLow t b
  ta : t.natAbs < 10 ^ 40
  tb : b.natAbs < 10 ^ 40
  eq : l = fracL t b
theorem num_head (n : Nat) (r : List Nat) : (TL.numL n ++ r).head? ≠ some 45 := by
  intro e
  have ne := TL.numL_ne n
  cases c : TL.numL n with
  | nil => exact ne c
  | cons x y =>
    rw [c] at e
    have ex : x = 45 := Option.some.inj e
    have := TL.numL_digits n x (by rw [c]; exact List.mem_cons_self)
    omega
theorem bare_frac (t b : Int) : bareL (fracL t b) = TL.numL t.natAbs ++ (if b = 1 then [] else 47 :: TL.numL b.natAbs) ∧ ((fracL t b).head? = some 45 ↔ t < 0) := by
  unfold fracL
  by_cases c : t < 0
  · rw [if_pos c]
    exact ⟨if_pos rfl, fun _ => c, fun _ => rfl⟩
  · rw [if_neg c, List.nil_append]
    exact ⟨if_neg (num_head _ _), fun h => absurd h (num_head _ _), fun h => absurd h c⟩
theorem bare_back (l : List Nat) : l = (if l.head? = some 45 then [45] else []) ++ bareL l := by
  unfold bareL
  by_cases c : l.head? = some 45
  · rw [if_pos c, if_pos c]
    cases l with
    | nil => cases c
    | cons x r =>
      rw [Option.some.inj c]
      rfl
  · rw [if_neg c, if_neg c]
    rfl
theorem dv_lt : ∀ (n : Nat) (l : List Nat), l.length = n → NumText.AllDigits l → NumText.digitsVal l < 10 ^ n
  | 0, l, e, _ => by
    rw [List.length_eq_zero_iff.mp e]
    decide
  | n + 1, l, e, d => by
    rcases List.eq_nil_or_concat l with z | ⟨i, c, z⟩
    · rw [z] at e
      cases e
    · rw [z, List.concat_eq_append] at e d ⊢
      rw [List.length_append, List.length_singleton] at e
      have ih := dv_lt n i (by omega) fun x hx => d x (List.mem_append_left _ hx)
      have hc := d c (List.mem_append_right _ List.mem_cons_self)
      rw [NumText.digitsVal_snoc, Nat.pow_succ]
      omega
theorem all_dig {w : List Nat} (h : w.all digC = true) : NumText.AllDigits w := fun c hc => by
  have := List.all_eq_true.mp h c hc
  unfold digC at this
  rw [Bool.and_eq_true] at this
  exact ⟨of_decide_eq_true this.1, of_decide_eq_true this.2⟩
theorem num_back {w : List Nat} (d : NumText.AllDigits w) (ne : w ≠ []) (h : ¬ (w.head? = some 48 ∧ w ≠ [48])) : TL.numL (NumText.digitsVal w) = w := by
  obtain ⟨c, r, rfl⟩ : ∃ c r, w = c :: r := by
    cases w with
    | nil => exact absurd rfl ne
    | cons c r => exact ⟨c, r, rfl⟩
  have hc := d c List.mem_cons_self
  have td := NumText.toDigits_digitsVal r.length (c :: r) rfl d (by
    by_cases z : c = 48
    · left
      by_cases one : c :: r = [48]
      · rw [(List.cons.inj one).2]
        rfl
      · exact absurd ⟨by rw [z] <;> rfl, one⟩ h
    · exact .inr ⟨c, r, rfl, by omega⟩)
  unfold TL.numL
  rw [td, List.map_map]
  refine (List.map_congr_left fun x hx => ?_).trans (List.map_id _)
  have hx2 := d x hx
  show (Char.ofNat x).toNat = x
  have hv : x.isValidChar := .inl (by omega)
  rw [Char.ofNat, dif_pos hv]
  rfl
theorem num_iff {w : List Nat} {n : Nat} : numD w = some n ↔ w = TL.numL n ∧ n < 10 ^ 40 := by
  unfold numD
  constructor
  · intro h
    by_cases c : w ≠ [] ∧ w.all digC = true ∧ w.length ≤ 40 ∧ ¬ (w.head? = some 48 ∧ w ≠ [48])
    · rw [if_pos c] at h
      have e := Option.some.inj h
      subst e
      obtain ⟨c1, c2, c3, c4⟩ := c
      exact ⟨(num_back (all_dig c2) c1 c4).symm, Nat.lt_of_lt_of_le (dv_lt _ w rfl (all_dig c2)) (Nat.pow_le_pow_right (by decide) c3)⟩
    · rw [if_neg c] at h
      cases h
  · rintro ⟨rfl, hn⟩
    have d := TL.numL_digits n
    rw [if_pos, TL.numL_val]
    refine ⟨TL.numL_ne n, ?_, TL.numL_len (by decide) hn, ?_⟩
    · rw [List.all_eq_true]
      intro c hc
      have := d c hc
      unfold digC
      rw [decide_eq_true this.1, decide_eq_true this.2] <;> rfl
    · rintro ⟨h1, h2⟩
      by_cases z : n < 10
      · rw [TL.numL_lt z] at h1 h2
        have := Option.some.inj h1
        exact h2 (by rw [this])
      · have big : 0 < n := by omega
        have ev : ∀ m, 0 < m → (TL.numL m).head? ≠ some 48 := fun m => by
          induction m using Nat.strongRecOn with
          | _ m ih =>
            intro hm e
            by_cases q : m < 10
            · rw [TL.numL_lt q] at e
              have := Option.some.inj e
              omega
            · rw [TL.numL_step (by omega)] at e
              have i2 := ih (m / 10) (by omega) (by omega)
              cases k : TL.numL (m / 10) with
              | nil => exact TL.numL_ne _ k
              | cons x y =>
                rw [k] at e i2
                exact i2 e
        exact ev n big h1
theorem parts_of : ∀ l : List Nat, ∃ ps : List (List Nat), ps ≠ [] ∧ (∀ p ∈ ps, 47 ∉ p) ∧ TL.joinL [47] ps = l ∧ (∀ p ∈ ps, p.length ≤ l.length) ∧ ps.length ≤ l.length + 1
  | [] => ⟨[[]], by simp, by simp, rfl, by simp, by simp⟩
  | c :: r => by
    obtain ⟨ps, h1, h2, h3, h4, h5⟩ := parts_of r
    by_cases z : c = 47
    · refine ⟨[] :: ps, by simp, fun p hp => ?_, ?_, fun p hp => ?_, by rw [List.length_cons, List.length_cons]; omega⟩
      · rcases List.mem_cons.mp hp with e | e
        · rw [e]
          simp
        · exact h2 p e
      · cases ps with
        | nil => exact absurd rfl h1
        | cons q qs =>
          show [] ++ ([47] ++ TL.joinL [47] (q :: qs)) = c :: r
          rw [h3, z]
          rfl
      · rcases List.mem_cons.mp hp with e | e
        · rw [e]
          exact Nat.zero_le _
        · exact Nat.le_succ_of_le (h4 p e)
    · cases ps with
      | nil => exact absurd rfl h1
      | cons q qs =>
        refine ⟨(c :: q) :: qs, by simp, fun p hp => ?_, ?_, fun p hp => ?_, by rw [List.length_cons] at h5; rw [List.length_cons, List.length_cons]; omega⟩
        · rcases List.mem_cons.mp hp with e | e
          · rw [e]
            intro m
            rcases List.mem_cons.mp m with m | m
            · exact z m.symm
            · exact h2 q List.mem_cons_self m
          · exact h2 p (List.mem_cons_of_mem _ e)
        · cases qs with
          | nil =>
            have h3' : q = r := h3
            rw [h3']
            rfl
          | cons q2 q3 =>
            have h3' : q ++ ([47] ++ TL.joinL [47] (q2 :: q3)) = r := h3
            rw [← h3']
            rfl
        · rcases List.mem_cons.mp hp with e | e
          · rw [e]
            have := h4 q List.mem_cons_self
            show q.length + 1 ≤ r.length + 1
            omega
          · exact Nat.le_succ_of_le (h4 p (List.mem_cons_of_mem _ e))
/-- a fraction's text has a fraction's parts -/
theorem frac_parts {l : List Nat} {t b : Int} {ps : List (List Nat)} (F : Frac9 l t b) (h1 : ps ≠ []) (h2 : ∀ p ∈ ps, 47 ∉ p) (h3 : TL.joinL [47] ps = bareL l) :
    ((b = 1 ∧ ps = [TL.numL t.natAbs]) ∨ (b ≠ 1 ∧ ps = [TL.numL t.natAbs, TL.numL b.natAbs])) ∧ (l.head? = some 45 ↔ t < 0) := by
  obtain ⟨e1, e2⟩ := bare_frac t b
  rw [← F.eq] at e1 e2
  refine ⟨?_, e2⟩
  have u := TL.spl_join (S := []) h1 h2
  rw [h3, e1] at u
  by_cases b1 : b = 1
  · left
    refine ⟨b1, ?_⟩
    rw [if_pos b1, List.append_nil] at u
    rw [← u]
    exact TL.spl_join (S := []) (parts := [TL.numL t.natAbs]) (by simp) fun p hp => by rw [List.mem_singleton.mp hp]; exact TL.numL_free (by decide)
  · right
    refine ⟨b1, ?_⟩
    rw [if_neg b1] at u
    rw [← u]
    exact TL.spl_join (S := []) (parts := [TL.numL t.natAbs, TL.numL b.natAbs]) (by simp) fun p hp => by
      rcases List.mem_cons.mp hp with e | e
      · rw [e]
        exact TL.numL_free (by decide)
      · rw [List.mem_singleton.mp e]
        exact TL.numL_free (by decide)
theorem take1 (l : List Nat) : decide (V.str (cutS (S l) none (some 1)) = V.str (S [45])) = decide (l.head? = some 45) := by
  rw [C8.cutS_slice, SX.slice_to (by decide), dec_S]
  cases l with
  | nil => rfl
  | cons c r =>
    show decide ([c] = [45]) = decide (some c = some 45)
    by_cases h : c = 45
    · rw [h] <;> rfl
    · rw [decide_eq_false fun e => h (List.cons.inj e).1, decide_eq_false fun e => h (Option.some.inj e)]
theorem drop1 (l : List Nat) : cutS (S l) (some 1) none = S (l.drop 1) := by
  rw [C8.cutS_slice, SX.slice_from (by decide)] <;> rfl
theorem split_ps {a : List Nat} {ps : List (List Nat)} (h1 : ps ≠ []) (h2 : ∀ p ∈ ps, 47 ∉ p) (h3 : TL.joinL [47] ps = a) : Txt.split (S a) (S [47]) = ps.map S := by
  have u := TL.spl_join (S := []) h1 h2
  rw [h3] at u
  have e : Txt.split (S a) (S [47]) = _ := SX.split_S (a := a) (b := [47]) (by decide) (by decide)
  rw [e, u]
theorem str_at {ps : List (List Nat)} {j : Nat} {x : V} (h : ((ps.map S).map V.str)[j]? = some x) : ∃ p, ps[j]? = some p ∧ x = .str (S p) := by
  rw [List.getElem?_map, List.getElem?_map] at h
  cases e : ps[j]? with
  | none =>
    rw [e] at h
    cases h
  | some p =>
    rw [e] at h
    exact ⟨p, rfl, (Option.some.inj h).symm⟩
def numsV (ps : List (List Nat)) : List V := ps.map fun p => optV (numD p)
theorem nums_flat (ps : List (List Nat)) : (numsV ps).all flatV = true := by
  unfold numsV
  rw [List.all_map, List.all_eq_true]
  intro p _
  show flatV (optV (numD p)) = true
  cases numD p <;> rfl
theorem nums_none (ps : List (List Nat)) : inV .non (numsV ps) = true ↔ ∃ p ∈ ps, numD p = none := by
  unfold inV numsV
  rw [List.any_map, List.any_eq_true]
  constructor
  · rintro ⟨p, hp, h⟩
    refine ⟨p, hp, ?_⟩
    have h' : eqV (optV (numD p)) .non = true := h
    cases e : numD p with
    | none => rfl
    | some n =>
      rw [e] at h'
      cases h'
  · rintro ⟨p, hp, h⟩
    refine ⟨p, hp, ?_⟩
    show eqV (optV (numD p)) .non = true
    rw [h]
    rfl
theorem low_iff {t b : Int} (hb : 0 < b) : ((low t b).1 = t ∧ (low t b).2 = b) ↔ IsLow t b := by
  constructor
  · rintro ⟨h1, h2⟩
    have z := (low_facts t b (Int.ne_of_gt hb)).1
    rw [h1, h2] at z
    exact z
  · intro h
    rw [low_id h]
    exact ⟨rfl, rfl⟩
theorem nums_of {ps : List (List Nat)} (h : ¬ ∃ p ∈ ps, numD p = none) : ∀ p ∈ ps, ∃ n : Nat, numD p = some n ∧ p = TL.numL n ∧ n < 10 ^ 40 := fun p hp => by
  cases e : numD p with
  | none => exact absurd ⟨p, hp, e⟩ h
  | some n => exact ⟨n, rfl, num_iff.mp e⟩
theorem back_one {l : List Nat} {n : Nat} (h : bareL l = TL.numL n) (z : l.head? = some 45 → n ≠ 0) : l = fracL (if l.head? = some 45 then -(n : Int) else n) 1 := by
  have e := bare_back l
  rw [h] at e
  unfold fracL
  by_cases m : l.head? = some 45
  · rw [if_pos m] at e ⊢
    have := z m
    rw [if_pos (by omega), if_pos rfl, List.append_nil, show (-(n : Int)).natAbs = n by omega]
    exact e
  · rw [if_neg m] at e ⊢
    rw [if_neg (by omega), if_pos rfl, List.append_nil, Int.natAbs_natCast]
    exact e
theorem back_two {l : List Nat} {n k : Nat} (h : bareL l = TL.numL n ++ 47 :: TL.numL k) (z : l.head? = some 45 → n ≠ 0) (hk : k ≠ 1) : l = fracL (if l.head? = some 45 then -(n : Int) else n) k := by
  have e := bare_back l
  rw [h] at e
  unfold fracL
  have k1 : ¬ (k : Int) = 1 := by omega
  by_cases m : l.head? = some 45
  · rw [if_pos m] at e ⊢
    have := z m
    rw [if_pos (by omega), if_neg k1, show (-(n : Int)).natAbs = n by omega, Int.natAbs_natCast]
    exact e
  · rw [if_neg m] at e ⊢
    rw [if_neg (by omega), if_neg k1, Int.natAbs_natCast, Int.natAbs_natCast]
    exact e
def sp_l_read : Sp := fun vs H Q _ => ∃ l : List Nat, vs = [.str (S l)] ∧ l.length ≤ 1000 ∧ ((∀ t b, ¬ Frac9 l t b) → ∀ H', Same H H' → Q .non H') ∧ (∀ t b, Frac9 l t b → ∀ p H', Same H H' → H p = none → H' p = some (.tup [.int t, .int b]) → Q (.ref p) H')
theorem ok_l_read (T : All K mg) : FnOk P w K mg base CX0 2 T.f_l_read T.fd_l_read ["_law_text_here"] sp_l_read := by
  refine T.d_l_read.fn.ok sc_l_read (fun vs H Q E h => ?_) (fun cdv A outer s H vs Q E hr h => ?_)
  · obtain ⟨l, rfl, _⟩ := h
    rfl
  · obtain ⟨l, rfl, hl, qn, qs⟩ := h
    refine ⟨_, (pss_cons (ps_set (i := 1) sc_l_read.nd rfl (by first | exact Or.inl rfl | exact Or.inr rfl) (pe_split (pe_ifExp (pt_cmpR op_eq (pe_slice sl_str (pv 0) po_none (po_some pe_int)) pe_str (nomark _)) (pe_slice sl_str (pv 0) (po_some pe_int) po_none) (pv 0)) pe_str))
      (pss_cons (ps_setLc (i := 2) (own := [("_law_word", 3)]) (g := gName 3) (tt := tYes) (by rfl) sc_l_read.nd rfl rfl (sw_true rfl rfl rfl (by decide +kernel)) (pi_listK (K := K) rfl (pv 1)) (blkOk_by (own := [("_law_word", 3)]) (N := ["_law_text_here", "_law_words", "_law_numbers", "_law_word", "_law_top"]) (sc := defScope s_l_read) (by decide +kernel)) (fun _ _ _ _ _ => (pg_name (i := 3) sc_l_read.nd rfl (by first | exact Or.inl rfl | exact Or.inr rfl))) (fun _ _ _ _ _ => pts_nil) (fun _ _ _ _ _ => (pe_call (ok_l_number T) hr (by rfl) T.d_l_number.mg T.d_l_number.fn.kp T.d_l_number.b .nil pass0 (pa_cons (pv 3) pa_nil))))
      (pss_cons (ps_if (PW.pt (pw_or (pt_cmpR (inQ (K := K) rfl) pe_non (pv 2) (by with_unfolding_all rfl)) (pw_or (pt_cmpR op_gt (pe_callB (lenQ (K := K) rfl) (by rfl) T.b_len PySem.boot_len (pa_cons (pv 2) pa_nil)) pe_int (nomark _)) (pw_or1 (PW.pt (pw_and (pt_cmpR op_eq (pe_slice sl_str (pv 0) po_none (po_some pe_int)) pe_str (nomark _)) (pw_and1 (pt_cmpR op_eq (pe_ix (ixL (K := K) rfl) (pv 2) pe_int (fun _ _ => rfl)) pe_int (nomark _))))))))) (pss_one (ps_ret pe_non)) pss_nil)
      (pss_cons (ps_set (i := 4) sc_l_read.nd rfl (by first | exact Or.inl rfl | exact Or.inr rfl) (pe_ifExp (pt_cmpR op_eq (pe_slice sl_str (pv 0) po_none (po_some pe_int)) pe_str (nomark _)) (pe_un un_neg (pe_ix (ixL (K := K) rfl) (pv 2) pe_int (fun _ _ => rfl))) (pe_ix (ixL (K := K) rfl) (pv 2) pe_int (fun _ _ => rfl))))
      (pss_cons (ps_if (pt_cmpR op_eq (pe_callB (lenQ (K := K) rfl) (by rfl) T.b_len PySem.boot_len (pa_cons (pv 2) pa_nil)) pe_int (nomark _)) (pss_one (ps_ret (pe_tupI (pa_cons (pv 4) (pa_cons pe_int pa_nil))))) pss_nil)
      (pss_cons (ps_if (PW.pt (pw_or (pt_cmpR op_lt (pe_ix (ixL (K := K) rfl) (pv 2) pe_int (fun _ _ => rfl)) pe_int (nomark _)) (pw_or1 (pt_cmpR (neDK (K := K) rfl hr.units) (pe_call (ok_l_low T) hr (by rfl) T.d_l_low.mg T.d_l_low.fn.kp T.d_l_low.b .nil pass0 (pa_cons (pv 4) (pa_cons (pe_ix (ixL (K := K) rfl) (pv 2) pe_int (fun _ _ => rfl)) pa_nil))) (pe_tupI (pa_cons (pv 4) (pa_cons (pe_ix (ixL (K := K) rfl) (pv 2) pe_int (fun _ _ => rfl)) pa_nil))) (nomark _))))) (pss_one (ps_ret pe_non)) pss_nil)
      (pss_one (ps_ret (pe_tupI (pa_cons (pv 4) (pa_cons (pe_ix (ixL (K := K) rfl) (pv 2) pe_int (fun _ _ => rfl)) pa_nil))))))))))), ?_⟩
    obtain ⟨ps, p1, p2, p3, p4, p5⟩ := parts_of (bareL l)
    have hb := bare_len l
    have free : ∀ {H' : Hp} {q : Addr}, Same H H' → H' q = none → H q = none := fun {H' q} s h => by
      cases e : H q with
      | none => rfl
      | some u =>
        rw [s _ _ e] at h
        cases h
    have w2 : ∀ {n : Nat}, n < 10 ^ 40 → n < 2 ^ 2000 := fun h => Nat.lt_of_lt_of_le (b40 h) (Nat.pow_le_pow_right (by decide) (by decide))
    have sl : (S l).length ≤ sizeLine := by rw [S_len]; exact small (by omega)
    refine ⟨_, rfl, _, rfl, _, rfl, sl, rfl, _, rfl, ?_⟩
    rw [lit_minus, take1]
    by_cases m : l.head? = some 45
    · refine ite_bT (decide_eq_true m) ?_
      have bl : bareL l = l.drop 1 := by unfold bareL; rw [if_pos m, List.drop_one]
      refine ⟨_, rfl, _, rfl, _, rfl, sl, ⟨_, rfl⟩, _, _, rfl, rfl, by decide +kernel, ?_, fun w hw => ?_⟩
      · rw [drop1, ← bl, S_len]; exact small (by omega)
      rw [drop1, ← bl, lit_stroke, split_ps p1 p2 p3]
      generalize eH : upd H w (.lst ((ps.map S).map V.str)) = H1
      have s1 : Same H H1 := by rw [← eH]; exact same_new hw
      have h1 : H1 w = some (.lst ((ps.map S).map V.str)) := by rw [← eH]; exact upd_same
      refine ⟨_, rfl, w, rfl, ⟨_, SqL.of h1⟩, fun D hD => ?_⟩
      have sD : ∀ acc : List V, Same H1 (upd H1 D (.lst acc)) := fun acc => same_new hD
      refine lc_list (K := K) (a := w) (xs := (ps.map S).map V.str) (fun j H' => H' = upd H1 D (.lst ((numsV ps).take j))) rfl (fun j H' _ e => by rw [e]; exact SqL.of (sD _ _ _ h1)) ?_ ?_
      · rintro j x H2 hj rfl
        obtain ⟨p, hp, rfl⟩ := str_at hj
        have pm := List.mem_of_getElem? hp
        have jl : j < ps.length := (List.getElem?_eq_some_iff.mp hp).1
        refine ⟨rfl, yesT ?_⟩
        have e : (numsV ps).take (j + 1) = (numsV ps).take j ++ [optV (numD p)] := by
          unfold numsV
          rw [List.take_add_one, List.getElem?_map, hp] <;> rfl
        refine ⟨_, rfl, p, rfl, by have := p4 p pm; omega, _, upd_same, by rw [List.length_take]; unfold numsV; rw [List.length_map]; exact small' (by omega), ?_⟩
        rw [upd_upd, e]
      · rintro H2 e2
        have nl : (numsV ps).length = ps.length := List.length_map _
        rw [List.length_map, List.length_map, ← nl, List.take_length] at e2
        have s2 : Same H H2 := by rw [e2]; exact s1.trans (sD _)
        have h2 : H2 D = some (.lst (numsV ps)) := by rw [e2]; exact upd_same
        clear e2 h1 s1 eH
        refine ⟨_, rfl, D, _, rfl, .inl (SqL.of h2), rfl, nums_flat ps, _, rfl, ?_⟩
        by_cases an : ∃ p ∈ ps, numD p = none
        · refine ite_bT ((nums_none ps).mpr an) (iteT ?_)
          refine qn (fun t b F => ?_) _ s2
          obtain ⟨z, _⟩ := frac_parts F p1 p2 p3
          obtain ⟨p, hp, en⟩ := an
          have k1 := num_iff.mpr ⟨rfl, F.ta⟩
          have k2 := num_iff.mpr ⟨rfl, F.tb⟩
          rcases z with ⟨_, z⟩ | ⟨_, z⟩
          · rw [z] at hp
            rw [List.mem_singleton.mp hp, k1] at en
            cases en
          · rw [z] at hp
            rcases List.mem_cons.mp hp with e | e
            · rw [e, k1] at en
              cases en
            · rw [List.mem_singleton.mp e, k2] at en
              cases en
        · refine ite_bF (Bool.eq_false_iff.mpr fun e => an ((nums_none ps).mp e)) ?_
          have all := nums_of an
          refine ⟨_, rfl, D, _, rfl, .inl (SqL.of h2), _, _, rfl, rfl, _, rfl, ?_⟩
          rw [nl]
          rcases ps with _ | ⟨u1, _ | ⟨u2, _ | ⟨u3, r⟩⟩⟩
          · exact absurd rfl p1
          · obtain ⟨n1, en1, eu1, l1⟩ := all u1 List.mem_cons_self
            have nv : numsV [u1] = [.int (n1 : Int)] := by unfold numsV; rw [List.map_cons, List.map_nil, en1] <;> rfl
            have bp : bareL l = TL.numL n1 := by rw [← p3, eu1] <;> rfl
            rw [nv] at h2
            refine ite_bF (by show decide ((2 : Int) < ((1 : Nat) : Int)) = false; decide) ?_
            refine ⟨_, rfl, _, rfl, _, rfl, sl, rfl, _, rfl, ?_⟩
            rw [take1]
            have parts : ∀ t b, Frac9 l t b → ((b = 1 ∧ [u1] = [TL.numL t.natAbs]) ∨ (b ≠ 1 ∧ [u1] = [TL.numL t.natAbs, TL.numL b.natAbs])) ∧ (l.head? = some 45 ↔ t < 0) := fun t b F => frac_parts F p1 p2 p3
            refine ite_bT (decide_eq_true m) ?_
            refine ⟨_, rfl, D, _, 0, _, rfl, rfl, SqL.of h2, at0, rfl, _, rfl, ?_⟩
            by_cases z : n1 = 0
            · rw [decide_eq_true (show V.int (n1 : Int) = V.int 0 by rw [z] <;> rfl)]
              refine iteT ?_
              refine qn (fun t b F => ?_) _ s2
              obtain ⟨k, kt⟩ := parts t b F
              have e1 : u1 = TL.numL t.natAbs := by
                rcases k with ⟨_, k⟩ | ⟨_, k⟩
                · exact (List.cons.inj k).1
                · exact (List.cons.inj k).1
              rw [eu1] at e1
              have e3 := TL.numL_inj e1
              have e4 := kt.mp m
              omega
            · rw [decide_eq_false (show ¬ V.int (n1 : Int) = V.int 0 from fun y => z (by have := V.int.inj y; omega))]
              refine iteF ?_
              refine ⟨_, rfl, _, rfl, _, rfl, sl, rfl, _, rfl, ?_⟩
              rw [take1]
              refine ite_bT (decide_eq_true m) ?_
              refine ⟨_, rfl, D, _, 0, _, rfl, rfl, SqL.of h2, at0, _, rfl, ?_⟩
              refine ⟨_, rfl, D, _, rfl, .inl (SqL.of h2), rfl, _, rfl, ?_⟩
              refine ite_iT rfl ?_
              refine ⟨_, rfl, rfl, fun q H3 s3 n3 h3 => ?_⟩
              have back := back_one bp (fun _ => z)
              rw [if_pos m] at back
              exact qs (-(n1 : Int)) 1 ⟨⟨by decide, Nat.gcd_one_right _⟩, by rw [Int.natAbs_neg, Int.natAbs_natCast]; exact l1, by decide, back⟩ q H3 (s2.trans s3) (free s2 n3) h3
          · obtain ⟨n1, en1, eu1, l1⟩ := all u1 List.mem_cons_self
            obtain ⟨n2, en2, eu2, l2⟩ := all u2 (List.mem_cons_of_mem _ List.mem_cons_self)
            have nv : numsV [u1, u2] = [.int (n1 : Int), .int (n2 : Int)] := by unfold numsV; rw [List.map_cons, List.map_cons, List.map_nil, en1, en2] <;> rfl
            have bp : bareL l = TL.numL n1 ++ 47 :: TL.numL n2 := by rw [← p3, eu1, eu2] <;> rfl
            rw [nv] at h2
            refine ite_bF (by show decide ((2 : Int) < ((2 : Nat) : Int)) = false; decide) ?_
            refine ⟨_, rfl, _, rfl, _, rfl, sl, rfl, _, rfl, ?_⟩
            rw [take1]
            have parts : ∀ t b, Frac9 l t b → ((b = 1 ∧ [u1, u2] = [TL.numL t.natAbs]) ∨ (b ≠ 1 ∧ [u1, u2] = [TL.numL t.natAbs, TL.numL b.natAbs])) ∧ (l.head? = some 45 ↔ t < 0) := fun t b F => frac_parts F p1 p2 p3
            refine ite_bT (decide_eq_true m) ?_
            refine ⟨_, rfl, D, _, 0, _, rfl, rfl, SqL.of h2, at0, rfl, _, rfl, ?_⟩
            by_cases z : n1 = 0
            · rw [decide_eq_true (show V.int (n1 : Int) = V.int 0 by rw [z] <;> rfl)]
              refine iteT ?_
              refine qn (fun t b F => ?_) _ s2
              obtain ⟨k, kt⟩ := parts t b F
              have e1 : u1 = TL.numL t.natAbs := by
                rcases k with ⟨_, k⟩ | ⟨_, k⟩
                · exact (List.cons.inj k).1
                · exact (List.cons.inj k).1
              rw [eu1] at e1
              have e3 := TL.numL_inj e1
              have e4 := kt.mp m
              omega
            · rw [decide_eq_false (show ¬ V.int (n1 : Int) = V.int 0 from fun y => z (by have := V.int.inj y; omega))]
              refine iteF ?_
              refine ⟨_, rfl, _, rfl, _, rfl, sl, rfl, _, rfl, ?_⟩
              rw [take1]
              refine ite_bT (decide_eq_true m) ?_
              refine ⟨_, rfl, D, _, 0, _, rfl, rfl, SqL.of h2, at0, _, rfl, ?_⟩
              refine ⟨_, rfl, D, _, rfl, .inl (SqL.of h2), rfl, _, rfl, ?_⟩
              refine ite_iF (by show ¬ ((2 : Nat) : Int) = 1; decide) ?_
              refine ⟨_, rfl, D, _, 1, _, rfl, rfl, SqL.of h2, at1, _, _, rfl, rfl, _, rfl, ?_⟩
              by_cases small2 : n2 < 2
              · refine ite_bT (decide_eq_true (by omega)) (iteT ?_)
                refine qn (fun t b F => ?_) _ s2
                obtain ⟨k, _⟩ := parts t b F
                rcases k with ⟨_, k⟩ | ⟨b1, k⟩
                · cases (List.cons.inj k).2
                · have e2 := (List.cons.inj (List.cons.inj k).2).1
                  rw [eu2] at e2
                  have e3 := TL.numL_inj e2
                  have e4 := F.low.pos
                  omega
              · refine ite_bF (decide_eq_false (by omega)) ?_
                have bpos : (0 : Int) < (n2 : Int) := by omega
                refine ⟨_, rfl, _, rfl, D, _, 1, _, rfl, rfl, SqL.of h2, at1, (-(n1 : Int)), (n2 : Int), rfl, Int.ne_of_gt bpos, by rw [Int.natAbs_neg, Int.natAbs_natCast]; exact w2 l1, by rw [Int.natAbs_natCast]; exact w2 l2, fun q3 H3 s3 n3 h3 => ?_⟩
                refine ⟨_, rfl, _, rfl, D, _, 1, _, rfl, rfl, SqL.of (s3 _ _ h2), at1, rfl, fun q4 H4 s4 n4 h4 => ?_⟩
                refine ⟨_, _, dp_pair (s4 _ _ h3), dp_pair h4, rfl, rfl, _, rfl, ?_⟩
                rw [eqv_pair]
                have back := back_two bp (fun _ => z) (by omega)
                rw [if_pos m] at back
                by_cases il : IsLow (-(n1 : Int)) (n2 : Int)
                · rw [decide_eq_true ((low_iff bpos).mpr il)]
                  refine iteF ?_
                  have s24 := s2.trans (s3.trans s4)
                  refine ⟨_, rfl, _, rfl, D, _, 1, _, rfl, rfl, SqL.of (s4 _ _ (s3 _ _ h2)), at1, rfl, fun q5 H5 s5 n5 h5 => ?_⟩
                  exact qs (-(n1 : Int)) (n2 : Int) ⟨il, by rw [Int.natAbs_neg, Int.natAbs_natCast]; exact l1, by rw [Int.natAbs_natCast]; exact l2, back⟩ q5 H5 (s24.trans s5) (free s24 n5) h5
                · rw [decide_eq_false fun e => il ((low_iff bpos).mp e)]
                  refine iteT ?_
                  refine qn (fun t b F => ?_) _ (s2.trans (s3.trans s4))
                  obtain ⟨k, kt⟩ := parts t b F
                  rcases k with ⟨_, k⟩ | ⟨b1, k⟩
                  · cases (List.cons.inj k).2
                  · have e2 := (List.cons.inj (List.cons.inj k).2).1
                    have e1 := (List.cons.inj k).1
                    rw [eu2] at e2
                    rw [eu1] at e1
                    have e3 := TL.numL_inj e2
                    have e5 := TL.numL_inj e1
                    have e4 := F.low.pos
                    have et : t = (-(n1 : Int)) := by
                      have := kt.mp m
                      omega
                    have eb : b = (n2 : Int) := by omega
                    rw [← et, ← eb] at il
                    exact il F.low
          · refine ite_bT (decide_eq_true (by simp only [List.length_cons]; omega)) (iteT ?_)
            refine qn (fun t b F => ?_) _ s2
            obtain ⟨k, _⟩ := frac_parts F p1 p2 p3
            rcases k with ⟨_, k⟩ | ⟨_, k⟩
            · cases (List.cons.inj k).2
            · cases (List.cons.inj (List.cons.inj k).2).2
    · refine ite_bF (decide_eq_false m) ?_
      have bl : bareL l = l := if_neg m
      refine ⟨_, rfl, ⟨_, rfl⟩, _, _, rfl, rfl, by decide +kernel, ?_, fun w hw => ?_⟩
      · rw [S_len]; exact small (by omega)
      rw [lit_stroke, split_ps (a := l) p1 p2 (by rw [p3, bl])]
      generalize eH : upd H w (.lst ((ps.map S).map V.str)) = H1
      have s1 : Same H H1 := by rw [← eH]; exact same_new hw
      have h1 : H1 w = some (.lst ((ps.map S).map V.str)) := by rw [← eH]; exact upd_same
      refine ⟨_, rfl, w, rfl, ⟨_, SqL.of h1⟩, fun D hD => ?_⟩
      have sD : ∀ acc : List V, Same H1 (upd H1 D (.lst acc)) := fun acc => same_new hD
      refine lc_list (K := K) (a := w) (xs := (ps.map S).map V.str) (fun j H' => H' = upd H1 D (.lst ((numsV ps).take j))) rfl (fun j H' _ e => by rw [e]; exact SqL.of (sD _ _ _ h1)) ?_ ?_
      · rintro j x H2 hj rfl
        obtain ⟨p, hp, rfl⟩ := str_at hj
        have pm := List.mem_of_getElem? hp
        have jl : j < ps.length := (List.getElem?_eq_some_iff.mp hp).1
        refine ⟨rfl, yesT ?_⟩
        have e : (numsV ps).take (j + 1) = (numsV ps).take j ++ [optV (numD p)] := by
          unfold numsV
          rw [List.take_add_one, List.getElem?_map, hp] <;> rfl
        refine ⟨_, rfl, p, rfl, by have := p4 p pm; omega, _, upd_same, by rw [List.length_take]; unfold numsV; rw [List.length_map]; exact small' (by omega), ?_⟩
        rw [upd_upd, e]
      · rintro H2 e2
        have nl : (numsV ps).length = ps.length := List.length_map _
        rw [List.length_map, List.length_map, ← nl, List.take_length] at e2
        have s2 : Same H H2 := by rw [e2]; exact s1.trans (sD _)
        have h2 : H2 D = some (.lst (numsV ps)) := by rw [e2]; exact upd_same
        clear e2 h1 s1 eH
        refine ⟨_, rfl, D, _, rfl, .inl (SqL.of h2), rfl, nums_flat ps, _, rfl, ?_⟩
        by_cases an : ∃ p ∈ ps, numD p = none
        · refine ite_bT ((nums_none ps).mpr an) (iteT ?_)
          refine qn (fun t b F => ?_) _ s2
          obtain ⟨z, _⟩ := frac_parts F p1 p2 p3
          obtain ⟨p, hp, en⟩ := an
          have k1 := num_iff.mpr ⟨rfl, F.ta⟩
          have k2 := num_iff.mpr ⟨rfl, F.tb⟩
          rcases z with ⟨_, z⟩ | ⟨_, z⟩
          · rw [z] at hp
            rw [List.mem_singleton.mp hp, k1] at en
            cases en
          · rw [z] at hp
            rcases List.mem_cons.mp hp with e | e
            · rw [e, k1] at en
              cases en
            · rw [List.mem_singleton.mp e, k2] at en
              cases en
        · refine ite_bF (Bool.eq_false_iff.mpr fun e => an ((nums_none ps).mp e)) ?_
          have all := nums_of an
          refine ⟨_, rfl, D, _, rfl, .inl (SqL.of h2), _, _, rfl, rfl, _, rfl, ?_⟩
          rw [nl]
          rcases ps with _ | ⟨u1, _ | ⟨u2, _ | ⟨u3, r⟩⟩⟩
          · exact absurd rfl p1
          · obtain ⟨n1, en1, eu1, l1⟩ := all u1 List.mem_cons_self
            have nv : numsV [u1] = [.int (n1 : Int)] := by unfold numsV; rw [List.map_cons, List.map_nil, en1] <;> rfl
            have bp : bareL l = TL.numL n1 := by rw [← p3, eu1] <;> rfl
            rw [nv] at h2
            refine ite_bF (by show decide ((2 : Int) < ((1 : Nat) : Int)) = false; decide) ?_
            refine ⟨_, rfl, _, rfl, _, rfl, sl, rfl, _, rfl, ?_⟩
            rw [take1]
            have parts : ∀ t b, Frac9 l t b → ((b = 1 ∧ [u1] = [TL.numL t.natAbs]) ∨ (b ≠ 1 ∧ [u1] = [TL.numL t.natAbs, TL.numL b.natAbs])) ∧ (l.head? = some 45 ↔ t < 0) := fun t b F => frac_parts F p1 p2 p3
            refine ite_bF (decide_eq_false m) ?_
            refine iteF ?_
            refine ⟨_, rfl, _, rfl, _, rfl, sl, rfl, _, rfl, ?_⟩
            rw [take1]
            refine ite_bF (decide_eq_false m) ?_
            refine ⟨_, rfl, D, _, 0, _, rfl, rfl, SqL.of h2, at0, ?_⟩
            refine ⟨_, rfl, D, _, rfl, .inl (SqL.of h2), rfl, _, rfl, ?_⟩
            refine ite_iT rfl ?_
            refine ⟨_, rfl, rfl, fun q H3 s3 n3 h3 => ?_⟩
            have back := back_one bp (fun _ => by exact absurd ‹_› m)
            rw [if_neg m] at back
            exact qs (n1 : Int) 1 ⟨⟨by decide, Nat.gcd_one_right _⟩, by rw [Int.natAbs_natCast]; exact l1, by decide, back⟩ q H3 (s2.trans s3) (free s2 n3) h3
          · obtain ⟨n1, en1, eu1, l1⟩ := all u1 List.mem_cons_self
            obtain ⟨n2, en2, eu2, l2⟩ := all u2 (List.mem_cons_of_mem _ List.mem_cons_self)
            have nv : numsV [u1, u2] = [.int (n1 : Int), .int (n2 : Int)] := by unfold numsV; rw [List.map_cons, List.map_cons, List.map_nil, en1, en2] <;> rfl
            have bp : bareL l = TL.numL n1 ++ 47 :: TL.numL n2 := by rw [← p3, eu1, eu2] <;> rfl
            rw [nv] at h2
            refine ite_bF (by show decide ((2 : Int) < ((2 : Nat) : Int)) = false; decide) ?_
            refine ⟨_, rfl, _, rfl, _, rfl, sl, rfl, _, rfl, ?_⟩
            rw [take1]
            have parts : ∀ t b, Frac9 l t b → ((b = 1 ∧ [u1, u2] = [TL.numL t.natAbs]) ∨ (b ≠ 1 ∧ [u1, u2] = [TL.numL t.natAbs, TL.numL b.natAbs])) ∧ (l.head? = some 45 ↔ t < 0) := fun t b F => frac_parts F p1 p2 p3
            refine ite_bF (decide_eq_false m) ?_
            refine iteF ?_
            refine ⟨_, rfl, _, rfl, _, rfl, sl, rfl, _, rfl, ?_⟩
            rw [take1]
            refine ite_bF (decide_eq_false m) ?_
            refine ⟨_, rfl, D, _, 0, _, rfl, rfl, SqL.of h2, at0, ?_⟩
            refine ⟨_, rfl, D, _, rfl, .inl (SqL.of h2), rfl, _, rfl, ?_⟩
            refine ite_iF (by show ¬ ((2 : Nat) : Int) = 1; decide) ?_
            refine ⟨_, rfl, D, _, 1, _, rfl, rfl, SqL.of h2, at1, _, _, rfl, rfl, _, rfl, ?_⟩
            by_cases small2 : n2 < 2
            · refine ite_bT (decide_eq_true (by omega)) (iteT ?_)
              refine qn (fun t b F => ?_) _ s2
              obtain ⟨k, _⟩ := parts t b F
              rcases k with ⟨_, k⟩ | ⟨b1, k⟩
              · cases (List.cons.inj k).2
              · have e2 := (List.cons.inj (List.cons.inj k).2).1
                rw [eu2] at e2
                have e3 := TL.numL_inj e2
                have e4 := F.low.pos
                omega
            · refine ite_bF (decide_eq_false (by omega)) ?_
              have bpos : (0 : Int) < (n2 : Int) := by omega
              refine ⟨_, rfl, _, rfl, D, _, 1, _, rfl, rfl, SqL.of h2, at1, (n1 : Int), (n2 : Int), rfl, Int.ne_of_gt bpos, by rw [Int.natAbs_natCast]; exact w2 l1, by rw [Int.natAbs_natCast]; exact w2 l2, fun q3 H3 s3 n3 h3 => ?_⟩
              refine ⟨_, rfl, _, rfl, D, _, 1, _, rfl, rfl, SqL.of (s3 _ _ h2), at1, rfl, fun q4 H4 s4 n4 h4 => ?_⟩
              refine ⟨_, _, dp_pair (s4 _ _ h3), dp_pair h4, rfl, rfl, _, rfl, ?_⟩
              rw [eqv_pair]
              have back := back_two bp (fun _ => by exact absurd ‹_› m) (by omega)
              rw [if_neg m] at back
              by_cases il : IsLow (n1 : Int) (n2 : Int)
              · rw [decide_eq_true ((low_iff bpos).mpr il)]
                refine iteF ?_
                have s24 := s2.trans (s3.trans s4)
                refine ⟨_, rfl, _, rfl, D, _, 1, _, rfl, rfl, SqL.of (s4 _ _ (s3 _ _ h2)), at1, rfl, fun q5 H5 s5 n5 h5 => ?_⟩
                exact qs (n1 : Int) (n2 : Int) ⟨il, by rw [Int.natAbs_natCast]; exact l1, by rw [Int.natAbs_natCast]; exact l2, back⟩ q5 H5 (s24.trans s5) (free s24 n5) h5
              · rw [decide_eq_false fun e => il ((low_iff bpos).mp e)]
                refine iteT ?_
                refine qn (fun t b F => ?_) _ (s2.trans (s3.trans s4))
                obtain ⟨k, kt⟩ := parts t b F
                rcases k with ⟨_, k⟩ | ⟨b1, k⟩
                · cases (List.cons.inj k).2
                · have e2 := (List.cons.inj (List.cons.inj k).2).1
                  have e1 := (List.cons.inj k).1
                  rw [eu2] at e2
                  rw [eu1] at e1
                  have e3 := TL.numL_inj e2
                  have e5 := TL.numL_inj e1
                  have e4 := F.low.pos
                  have et : t = (n1 : Int) := by
                    have : ¬ t < 0 := fun y => m (kt.mpr y)
                    omega
                  have eb : b = (n2 : Int) := by omega
                  rw [← et, ← eb] at il
                  exact il F.low
          · refine ite_bT (decide_eq_true (by simp only [List.length_cons]; omega)) (iteT ?_)
            refine qn (fun t b F => ?_) _ s2
            obtain ⟨k, _⟩ := frac_parts F p1 p2 p3
            rcases k with ⟨_, k⟩ | ⟨_, k⟩
            · cases (List.cons.inj k).2
            · cases (List.cons.inj (List.cons.inj k).2).2

end
end KR
namespace KR
open PySem PySem.Spec PyProof.Rows L2
section
variable {P : Program} {w : World} {K : PySem.W.Frag} {mg : Str → Option Value} {base : Heap}
theorem at_text {l : List Nat} {y : Int} (h0 : 0 ≤ y) (h1 : y < (l.length : Int)) (al : ∀ c ∈ l, c < 128) : ∃ c, atI (S l).cps.toList y = some c ∧ c < 128 := by
  obtain ⟨k, rfl⟩ : ∃ k : Nat, y = (k : Int) := ⟨y.toNat, by omega⟩
  have hk : k < l.length := by omega
  exact ⟨l[k], atI_nat (j := k) (List.getElem?_eq_getElem hk), al _ (List.getElem_mem hk)⟩
theorem all_signs : ∃ l : List Nat, (" !\"#$&'()*+,-./0123456789:;<=>?@ABCDEFGHIJKLMNOPQRSTUVWXYZ[\\]^_`abcdefghijklmnopqrstuvwxyz{|}~" : Str) = S l ∧ 0 < l.length ∧ l.length ≤ 100 ∧ ∀ c ∈ l, c < 128 :=
  ⟨_, rfl, by decide +kernel, by decide +kernel, by decide +kernel⟩
theorem few_signs : ∃ l : List Nat, ("0123456789-/+ " : Str) = S l ∧ 0 < l.length ∧ l.length ≤ 100 ∧ ∀ c ∈ l, c < 128 :=
  ⟨_, rfl, by decide +kernel, by decide +kernel, by decide +kernel⟩
def sp_l_sign : Sp := fun vs H Q _ => ∃ (p : Addr) (n : Nat), vs = [.ref p] ∧ BoxAt H p n ∧ n ≤ 999999000 ∧ ∀ (c : Nat) (H' : Hp), c < 128 → BoxAt H' p (n + 2) → Fr p H H' → Q (.str (S [c])) H'
theorem ok_l_sign (T : All K mg) : FnOk P w K mg base CX0 2 T.f_l_sign T.fd_l_sign ["_law_box_here"] sp_l_sign := by
  refine T.d_l_sign.fn.ok sc_l_sign (fun vs H Q E h => ?_) (fun cdv A outer s H vs Q E hr h => ?_)
  · obtain ⟨p, n, rfl, _⟩ := h
    rfl
  · obtain ⟨p, n, rfl, hB, hn, q⟩ := h
    refine ⟨_, (pss_cons (ps_set (i := 1) sc_l_sign.nd rfl (by first | exact Or.inl rfl | exact Or.inr rfl) pe_str)
      (pss_cons (ps_par (i := 2) (j := 3) (by rfl) sc_l_sign.nd rfl rfl (by decide) rfl rfl (pa_cons (pe_call (ok_l_take T) hr (by rfl) T.d_l_take.mg T.d_l_take.fn.kp T.d_l_take.b .nil pass0 (pa_cons (pv 0) (pa_cons pe_int pa_nil))) (pa_cons pe_str pa_nil)) (by rfl))
      (pss_one (ps_ret (pe_ifExp (pt_cmpR op_eq (pv 2) pe_int (nomark _)) (pe_ix ix_str (pv 1) (pe_call (ok_l_take T) hr (by rfl) T.d_l_take.mg T.d_l_take.fn.kp T.d_l_take.b .nil pass0 (pa_cons (pv 0) (pa_cons (pe_callB call_len_str (by rfl) T.b_len PySem.boot_len (pa_cons (pv 1) pa_nil)) pa_nil))) (fun _ _ => rfl)) (pe_ix ix_str (pv 3) (pe_call (ok_l_take T) hr (by rfl) T.d_l_take.mg T.d_l_take.fn.kp T.d_l_take.b .nil pass0 (pa_cons (pv 0) (pa_cons (pe_callB call_len_str (by rfl) T.b_len PySem.boot_len (pa_cons (pv 3) pa_nil)) pa_nil))) (fun _ _ => rfl))))))), ?_⟩
    obtain ⟨la, ea, a0, a1, a2⟩ := all_signs
    obtain ⟨lf, ef, f0, f1, f2⟩ := few_signs
    refine ⟨_, rfl, p, 3, n, rfl, hB, by omega, by decide, by decide, fun z H1 z0 z1 B1 F1 => ⟨_, _, rfl, ?_⟩⟩
    refine ⟨_, rfl, rfl, _, rfl, ?_⟩
    rw [ea, ef]
    refine ite2 (fun c => ?_) (fun c => ?_)
    · refine ⟨_, rfl, _, rfl, _, rfl, _, rfl, by rw [S_len]; exact small (by omega), p, (la.length : Int), n + 1, by rw [S_len] <;> rfl, B1, by omega, by omega, by omega, fun y H2 y0 y1 B2 F2 => ?_⟩
      obtain ⟨d, ed, d1⟩ := at_text y0 y1 a2
      exact ⟨_, _, d, rfl, rfl, by rw [S_len]; exact small (by omega), ed, q d H2 d1 B2 (F1.trans F2)⟩
    · refine ⟨_, rfl, _, rfl, _, rfl, _, rfl, by rw [S_len]; exact small (by omega), p, (lf.length : Int), n + 1, by rw [S_len] <;> rfl, B1, by omega, by omega, by omega, fun y H2 y0 y1 B2 F2 => ?_⟩
      obtain ⟨d, ed, d1⟩ := at_text y0 y1 f2
      exact ⟨_, _, d, rfl, rfl, by rw [S_len]; exact small (by omega), ed, q d H2 d1 B2 (F1.trans F2)⟩

end
end KR
namespace KR
open PySem PySem.Spec PyProof.Rows L2
section
variable {P : Program} {w : World} {K : PySem.W.Frag} {mg : Str → Option Value} {base : Heap}
theorem tl_of (x : String) : TL.tl (Str.ofString x) = x.toList.map Char.toNat := by
  rw [PySem.Str.ofString_eq_toList]
theorem num_Z (t : Int) : Str.ofString (toString t) = S ((if t < 0 then [45] else []) ++ TL.numL t.natAbs) := by
  by_cases h : t < 0
  · apply TL.ext_tl
    rw [if_pos h, tl_of, PyProof.Rows.toString_neg h, String.toList_append, List.map_append, ← tl_of, ← tl_of, show (0 : Int) - t = ((t.natAbs : Nat) : Int) by omega, TL.tl_num]
    rfl
  · rw [if_neg h]
    have e := num_S t.natAbs
    rw [show ((t.natAbs : Nat) : Int) = t by omega] at e
    exact e
def sp_l_text (K : PySem.W.Frag) : Sp := fun vs H Q _ => ∃ (a : Addr) (t b : Int), vs = [.ref a] ∧ SqT K H a [.int t, .int b] ∧ t.natAbs < 10 ^ 40 ∧ 0 < b ∧ b.natAbs < 10 ^ 40 ∧ Q (.str (S (fracL t b))) H
theorem ok_l_text (T : All K mg) : FnOk P w K mg base CX0 1 T.f_l_text T.fd_l_text ["_law_one"] (sp_l_text K) := by
  refine T.d_l_text.fn.ok sc_l_text (fun vs H Q E h => ?_) (fun cdv A outer s H vs Q E hr h => ?_)
  · obtain ⟨a, t, b, rfl, _⟩ := h
    rfl
  · obtain ⟨a, t, b, rfl, ha, ht, b0, hb, q⟩ := h
    refine ⟨_, (pss_one (ps_ret (pe_op op_add_str (pe_callTy call_str_int (by rfl) T.b_str (by decide +kernel) (pa_cons (pe_ix (ixT (K := K) rfl) (pv 0) pe_int (fun _ _ => rfl)) pa_nil)) (pe_ifExp (pt_cmpR op_eq (pe_ix (ixT (K := K) rfl) (pv 0) pe_int (fun _ _ => rfl)) pe_int (nomark _)) pe_str (pe_op op_add_str pe_str (pe_callTy call_str_int (by rfl) T.b_str (by decide +kernel) (pa_cons (pe_ix (ixT (K := K) rfl) (pv 0) pe_int (fun _ _ => rfl)) pa_nil))))))), ?_⟩
    have lg : ∀ {n : Nat}, n < 10 ^ 40 → n.log2 < 1920 := fun h => Nat.lt_trans (PySem.Flt.log2_lt_of (by decide) (b40 h)) (by decide)
    have lt9 := TL.numL_len (k := 40) (by decide) ht
    have lb9 := TL.numL_len (k := 40) (by decide) hb
    have ls9 : (if t < 0 then [45] else [] : List Nat).length ≤ 1 := by split <;> decide
    have bn : ¬ b < 0 := by omega
    have la : ((if t < 0 then [45] else [] : List Nat) ++ TL.numL t.natAbs).length ≤ 41 := by
      rw [List.length_append]
      omega
    refine ⟨_, rfl, a, _, 0, _, rfl, rfl, ha, at0, t, rfl, lg ht, ?_⟩
    refine ⟨_, rfl, a, _, 1, _, rfl, rfl, ha, at1, rfl, _, rfl, ?_⟩
    rw [show Str.ofString (toString t) = _ from num_Z t]
    by_cases b1 : b = 1
    · refine ite_iT b1 ?_
      refine ⟨_, _, rfl, rfl, ?_, ?_⟩
      · rw [lit_none, S_len, S_len]
        exact small (by show _ + 0 ≤ 100000; omega)
      · have e : S ((if t < 0 then [45] else []) ++ TL.numL t.natAbs) ++ ("" : Str) = S (fracL t b) := by
          rw [lit_none, S_app]
          unfold fracL
          rw [if_pos b1, List.append_nil, List.append_nil]
        rw [e]
        exact q
    · refine ite_iF b1 ?_
      refine ⟨_, rfl, a, _, 1, _, rfl, rfl, ha, at1, b, rfl, lg hb, ?_⟩
      rw [show Str.ofString (toString b) = _ from num_Z b, if_neg bn, List.nil_append]
      refine ⟨_, _, rfl, rfl, ?_, _, _, rfl, rfl, ?_, ?_⟩
      · rw [lit_stroke, S_len, S_len]
        exact small (by show 1 + _ ≤ 100000; omega)
      · rw [lit_stroke, S_app, S_len, S_len, List.length_append, List.length_append]
        exact small (by show _ + (1 + _) ≤ 100000; omega)
      · have e : S ((if t < 0 then [45] else []) ++ TL.numL t.natAbs) ++ (("/" : Str) ++ S (TL.numL b.natAbs)) = S (fracL t b) := by
          rw [lit_stroke, S_app, S_app]
          unfold fracL
          rw [if_neg b1, List.append_assoc]
          rfl
        rw [e]
        exact q

end
end KR
namespace KR
open PySem PySem.Spec PyProof.Rows L2
section
variable {P : Program} {w : World} {K : PySem.W.Frag} {mg : Str → Option Value} {base : Heap}
/-! ### texts of signs below 128, of so many at most -/
structure Gd (n : Nat) (y : Str) : Prop where
  len : y.length ≤ n
  ok : ∀ c ∈ TL.tl y, c < 128
theorem Gd.up {n m : Nat} {y : Str} (h : Gd n y) (le : n ≤ m) : Gd m y := ⟨Nat.le_trans h.len le, h.ok⟩
theorem Gd.cut {n : Nat} {y : Str} (h : Gd n y) (lo hi : Option Int) : Gd n (cutS y lo hi) := by
  refine ⟨Nat.le_trans (cutS_length y lo hi) h.len, fun c hc => h.ok c ?_⟩
  have hc' : c ∈ (y.cps.toList.drop (HT.sIx y.length 0 lo)).take (HT.sIx y.length y.length hi - HT.sIx y.length 0 lo) := hc
  exact List.mem_of_mem_drop (List.mem_of_mem_take hc')
theorem Gd.app {n m : Nat} {x y : Str} (h : Gd n x) (k : Gd m y) : Gd (n + m) (x ++ y) := by
  have e : TL.tl (x ++ y) = TL.tl x ++ TL.tl y := TL.tl_append x y
  refine ⟨?_, fun c hc => ?_⟩
  · rw [TL.len_tl, e, List.length_append, ← TL.len_tl, ← TL.len_tl]
    have := h.len
    have := k.len
    omega
  · rw [e] at hc
    rcases List.mem_append.mp hc with z | z
    · exact h.ok c z
    · exact k.ok c z
theorem Gd.fit {n : Nat} {y : Str} (h : Gd n y) (le : n ≤ 100000) : y.length ≤ sizeLine := small (Nat.le_trans h.len le)
theorem Gd.two {n m : Nat} {x y : Str} (h : Gd n x) (k : Gd m y) (le : n + m ≤ 100000) : x.length + y.length ≤ sizeLine := small (Nat.le_trans (Nat.add_le_add h.len k.len) le)
theorem Gd.one {c : Nat} (h : c < 128) : Gd 1 (S [c]) := ⟨Nat.le_refl 1, fun d hd => by rw [List.mem_singleton.mp hd]; exact h⟩
theorem Gd.of {l : List Nat} {n : Nat} (h : l.length ≤ n) (k : ∀ c ∈ l, c < 128) : Gd n (S l) := ⟨by rw [S_len]; exact h, k⟩
/-- x[::-1]: a text of x's signs -/
def tRevS (te : TE) : TE := fun σ H Q => te σ H fun x H1 => ∃ z : Str, x = .str z ∧ z.length ≤ sizeLine ∧ ∀ y : Str, y.length ≤ z.length → (∀ c ∈ TL.tl y, c ∈ TL.tl z) → Q (.str y) H1
theorem pe_revS {X : Cx} {e : Expr} {te : TE} {k : Nat} {p1 p2 p3 pos : Pos} (he : PE X e te) : PE X (.Subscript e (.Slice none none (some (.UnaryOp .USub (.Constant (.int 1) k p1) p2)) p3) pos) (tRevS te) := by
  constructor
  intro pins s σ H Q I ask
  refine Subscript_ (thn (he.run pins s σ H _ I ask) fun v t1 ⟨x, G1, J1, r1, q1⟩ => ?_)
  obtain ⟨z, ex, hz, q⟩ := q1
  subst ex
  obtain ⟨t, et⟩ : ∃ t, v = Value.str z t := r1
  subst et
  have third : PO X (some (.UnaryOp .USub (.Constant (.int 1) k p1) p2)) (tPart (tUn (rU fun i => .int (-i)) (tC (.int 1)))) := po_some (pe_un un_neg pe_int)
  refine wpAny_Slice (thn (po_none.run pins t1 σ G1 (fun o G2 => o = none ∧ G2 = G1) J1 ⟨rfl, rfl⟩) fun vl t2 ⟨l, G2, J2, pl, el, e2⟩ => ?_)
  subst el e2
  refine thn (po_none.run pins t2 σ G2 (fun o G3 => o = none ∧ G3 = G2) J2 ⟨rfl, rfl⟩) fun vu t3 ⟨u, G3, J3, pu, eu, e3⟩ => ?_
  subst eu e3
  refine thn (third.run pins t3 σ G3 (fun o G4 => o = some (-1) ∧ G4 = G3) J3 ⟨1, rfl, -1, rfl, rfl, rfl⟩) fun vs t4 ⟨o, G4, J4, ps, eo, e4⟩ => ?_
  subst eo e4
  have J5 : Inv X pins σ G4 { t4 with heap := t4.heap.push { cls := .type "slice", data := .fields #[vl, vu, vs] } } := J4.kept (t' := t4.toks) fun b ob q => Heap.get?_push_of_some _ q
  obtain ⟨l0, rfl, el⟩ := IsPart.raw pl
  obtain ⟨u0, rfl, eu⟩ := IsPart.raw pu
  obtain ⟨st, rfl, es⟩ := IsPart.raw ps
  obtain ⟨kk, rfl⟩ : ∃ kk, st = some (-1, kk) := by
    cases st with
    | none => cases es
    | some w => exact ⟨w.2, by rw [show w = (w.1, w.2) from rfl]; have := Option.some.inj es; rw [← this]⟩
  show wpAny (model X.prog X.w) X.A (subscriptTail e (.Slice none none (some (.UnaryOp .USub (.Constant (.int 1) k p1) p2)) p3) (.str z t) (.ref t4.heap.objs.size)) (EP X pins σ Q) X.xe { t4 with heap := t4.heap.push { cls := .type "slice", data := .fields #[partValue l0, partValue u0, partValue (some (-1, kk))] } }
  refine tail_any (ops := [.ref t4.heap.objs.size, .str z t]) (typeIs_str _ _ _) F.slot_str_getitem.lookup ?_ (by with_unfolding_all rfl)
  refine wpAny_getItem_str_slice (l := l0) (u := u0) (st := some (-1, kk)) ⟨_, Heap.get?_push_size _ rfl, rfl, rfl⟩ rfl ?_
  have le := Txt.sliceBy_le z l0 u0 (-1, kk) (by show (-1 : Int) ≠ 0; decide)
  refine post_val_or_str ⟨Nat.le_trans le hz, fun t' c => ⟨.str _, G4, J5.kept (t' := c) fun b ob q => q, ⟨t', rfl⟩, q _ le fun d hd => ?_⟩⟩
  have hd' : d ∈ TL.tl (Txt.sliceBy z l0 u0 (-1, kk)) := hd
  unfold Txt.sliceBy at hd'
  split at hd'
  · exact hd'
  · obtain ⟨i, _, hi⟩ := List.mem_filterMap.mp hd'
    exact Array.mem_toList_iff.mpr (Array.mem_of_getElem? hi)
theorem gd_ix {ys : List Str} {m : Nat} {w : Int} (h : ∀ y ∈ ys, Gd m y) (h0 : 0 ≤ w) (h1 : w < (ys.length : Int)) : ∃ y, atI (ys.map V.str) w = some (.str y) ∧ Gd m y := by
  obtain ⟨k, rfl⟩ : ∃ k : Nat, w = (k : Int) := ⟨w.toNat, by omega⟩
  have hk : k < ys.length := by omega
  refine ⟨ys[k], atI_nat (j := k) ?_, h _ (List.getElem_mem hk)⟩
  rw [List.getElem?_map, List.getElem?_eq_getElem hk] <;> rfl
theorem gd_nil {m : Nat} : ∀ y ∈ ([] : List Str), Gd m y := fun y h => by cases h
theorem gd_cons {m n : Nat} {y : Str} {ys : List Str} (h : Gd n y) (le : n ≤ m) (t : ∀ y ∈ ys, Gd m y) : ∀ z ∈ y :: ys, Gd m z := fun z hz => by
  rcases List.mem_cons.mp hz with e | e
  · rw [e]
    exact h.up le
  · exact t z e
theorem gd_split {x : Str} {k : Nat} (h : Gd k x) : ∃ ys : List Str, Txt.split x (S [47]) = ys ∧ ys ≠ [] ∧ ys.length ≤ k + 1 ∧ ∀ y ∈ ys, Gd k y := by
  obtain ⟨ps, p1, p2, p3, p4, p5⟩ := parts_of (TL.tl x)
  have hl : (TL.tl x).length ≤ k := by rw [← TL.len_tl]; exact h.len
  refine ⟨ps.map S, ?_, fun e => p1 (List.map_eq_nil_iff.mp e), by rw [List.length_map]; omega, fun y hy => ?_⟩
  · have e := split_ps (a := TL.tl x) p1 p2 p3
    rw [S_tl] at e
    exact e
  · obtain ⟨p, hp, rfl⟩ := List.mem_map.mp hy
    refine Gd.of (by have := p4 p hp; omega) fun c hc => h.ok c ?_
    rw [← p3]
    have sub : ∀ qs : List (List Nat), p ∈ qs → c ∈ TL.joinL [47] qs := fun qs => by
      induction qs with
      | nil =>
        intro m
        cases m
      | cons q r ih =>
        intro m
        cases r with
        | nil =>
          rw [List.mem_singleton] at m
          rw [← m]
          exact hc
        | cons q2 r2 =>
          show c ∈ q ++ ([47] ++ TL.joinL [47] (q2 :: r2))
          rcases List.mem_cons.mp m with e | e
          · rw [← e]
            exact List.mem_append_left _ hc
          · exact List.mem_append_right _ (List.mem_append_right _ (ih e))
    exact sub ps hp
theorem gd_two {ys : List Str} {k : Nat} (h : ys ≠ []) (g : ∀ y ∈ ys, Gd k y) (hk : 1 ≤ k) : ∃ a b, cutV (ys.map V.str ++ [.str "1"]) none (some 2) = [.str a, .str b] ∧ Gd k a ∧ Gd k b := by
  have cut2 : ∀ xs : List V, cutV xs none (some 2) = xs.take 2 := fun xs => by
    have e1 : HT.sIx xs.length xs.length (some 2) = min 2 xs.length := HT.sIx_nat xs.length xs.length 2
    unfold cutV
    rw [e1, HT.sIx_none, List.drop_zero, Nat.sub_zero]
    rcases Nat.le_total 2 xs.length with q | q
    · rw [Nat.min_eq_left q]
    · rw [Nat.min_eq_right q, List.take_length, List.take_of_length_le q]
  have g1 : Gd k "1" := ⟨Nat.le_trans (by decide +kernel) hk, by decide +kernel⟩
  rw [cut2]
  match ys, h, g with
  | [a], _, g => exact ⟨a, "1", rfl, g a List.mem_cons_self, g1⟩
  | a :: b :: r, _, g => exact ⟨a, b, rfl, g a List.mem_cons_self, g b (List.mem_cons_of_mem _ List.mem_cons_self)⟩
def sp_l_bent : Sp := fun vs H Q _ => ∃ (p : Addr) (x : Str) (n k : Nat), vs = [.ref p, .str x] ∧ BoxAt H p n ∧ n ≤ 99999000 ∧ Gd k x ∧ 1 ≤ k ∧ k ≤ 1000 ∧ ∀ (y : Str) (H' : Hp), Gd (3 * k + 50) y → BoxAt H' p (n + 4) → Fr p H H' → Q (.str y) H'
theorem ok_l_bent (T : All K mg) : FnOk P w K mg base CX0 3 T.f_l_bent T.fd_l_bent ["_law_box_here", "_law_text_here"] sp_l_bent := by
  refine T.d_l_bent.fn.ok sc_l_bent (fun vs H Q E h => ?_) (fun cdv A outer s H vs Q E hr h => ?_)
  · obtain ⟨p, x, n, k, rfl, _⟩ := h
    rfl
  · obtain ⟨p, x, n, k, rfl, hB, hn, gx, k1, k9, q⟩ := h
    refine ⟨_, (pss_cons (ps_par3 (i := 2) (j := 3) (l := 4) (by rfl) sc_l_bent.nd rfl rfl rfl (by decide) (by decide) (by decide) rfl rfl rfl (pa_cons (pe_call (ok_l_take T) (hr.mono (by decide)) (by rfl) T.d_l_take.mg T.d_l_take.fn.kp T.d_l_take.b .nil pass0 (pa_cons (pv 0) (pa_cons pe_int pa_nil))) (pa_cons (pe_call (ok_l_take T) (hr.mono (by decide)) (by rfl) T.d_l_take.mg T.d_l_take.fn.kp T.d_l_take.b .nil pass0 (pa_cons (pv 0) (pa_cons (pe_op op_add (pe_callB call_len_str (by rfl) T.b_len PySem.boot_len (pa_cons (pv 1) pa_nil)) pe_int) pa_nil))) (pa_cons (pe_call (ok_l_sign T) hr (by rfl) T.d_l_sign.mg T.d_l_sign.fn.kp T.d_l_sign.b .nil pass0 (pa_cons (pv 0) pa_nil)) pa_nil))) (by rfl))
      (pss_cons (ps_set (i := 5) sc_l_bent.nd rfl (by first | exact Or.inl rfl | exact Or.inr rfl) (pe_lstI (pa_cons (pe_op op_add_str (pe_op op_add_str (pe_slice sl_str (pv 1) po_none (po_some (pv 3))) (pv 4)) (pe_slice sl_str (pv 1) (po_some (pv 3)) po_none)) (pa_cons (pe_op op_add_str (pe_slice sl_str (pv 1) po_none (po_some (pv 3))) (pe_slice sl_str (pv 1) (po_some (pe_op op_add (pv 3) pe_int)) po_none)) (pa_cons (pe_op op_add_str (pe_op op_add_str (pe_slice sl_str (pv 1) po_none (po_some (pv 3))) (pv 4)) (pe_slice sl_str (pv 1) (po_some (pe_op op_add (pv 3) pe_int)) po_none)) pa_nil)))))
      (pss_cons (ps_par (i := 6) (j := 7) (by rfl) sc_l_bent.nd rfl rfl (by decide) rfl rfl (pa_cons (pe_revS (pe_slice sl_str (pv 1) (po_some (pv 3)) (po_some (pe_op op_add (pv 3) pe_int)))) (pa_cons (pe_slice sl_str (pv 1) (po_some (pv 3)) po_none) pa_nil)) (by rfl))
      (pss_cons (ps_set (i := 5) sc_l_bent.nd rfl (by first | exact Or.inl rfl | exact Or.inr rfl) (pe_op op_catI (pv 5) (pe_lstI (pa_cons (pe_op op_add_str (pe_op op_add_str (pe_slice sl_str (pv 1) po_none (po_some (pv 3))) (pv 6)) (pe_slice sl_str (pv 1) (po_some (pe_op op_add (pv 3) pe_int)) po_none)) (pa_cons (pe_op op_add_str (pe_op op_add_str (pe_slice sl_str (pv 1) po_none (po_some (pv 3))) (pe_slice sl_str (pv 7) po_none (po_some pe_int))) (pv 7)) pa_nil)))))
      (pss_cons (ps_asg (pe_slice (slL (K := K) rfl) (pe_op op_catI (pe_split (pv 1) pe_str) (pe_lstI (pa_cons pe_str pa_nil))) po_none (po_some pe_int)) (pg_lst rfl (pgs_cons (pg_name (i := 8) sc_l_bent.nd rfl (by first | exact Or.inl rfl | exact Or.inr rfl)) (pgs_cons (pg_name (i := 9) sc_l_bent.nd rfl (by first | exact Or.inl rfl | exact Or.inr rfl)) pgs_nil))))
      (pss_cons (ps_set (i := 5) sc_l_bent.nd rfl (by first | exact Or.inl rfl | exact Or.inr rfl) (pe_op op_catI (pv 5) (pe_lstI (pa_cons (pe_op op_add_str pe_str (pv 1)) (pa_cons (pe_op op_add_str pe_str (pv 1)) (pa_cons (pe_op op_add_str pe_str (pv 1)) (pa_cons (pe_op op_add_str (pe_op op_add_str (pv 8) pe_str) (pv 9)) (pa_cons (pe_op op_add_str (pe_op op_add_str (pv 9) pe_str) (pv 8)) (pa_cons (pe_op op_add_str (pe_op op_add_str (pv 8) pe_str) (pv 9)) pa_nil)))))))))
      (pss_one (ps_ret (pe_ix (ixL (K := K) rfl) (pe_op op_catI (pv 5) (pe_lstI (pa_cons (pe_op op_add_str (pe_op op_add_str (pv 1) pe_str) (pv 9)) (pa_cons (pe_op op_add_str (pe_op op_add_str (pe_op op_add_str (pe_op op_add_str (pv 8) (pe_op op_mul_str pe_str pe_int)) pe_str) (pv 9)) pe_str) pa_nil)))) (pv 2) (fun _ _ => rfl)))))))))), ?_⟩
    have xl := gx.len
    have xs := gx.fit (by omega)
    refine ⟨_, rfl, p, 13, n, rfl, hB, by omega, by decide, by decide, fun w H1 w0 w1 B1 F1 => ?_⟩
    refine ⟨_, rfl, _, rfl, _, rfl, xs, _, _, rfl, rfl, p, (x.length : Int) + 1, n + 1, rfl, B1, by omega, by omega, by omega, fun at_ H2 a0 a1 B2 F2 => ?_⟩
    refine ⟨_, rfl, p, n + 2, rfl, B2, by omega, fun c H3 hc B3 F3 => ⟨_, _, _, rfl, ?_⟩⟩
    have gc := Gd.one hc
    have F := (F1.trans F2).trans F3
    refine ⟨_, rfl, _, rfl, _, rfl, _, rfl, xs, _, rfl, _, _, rfl, rfl, Gd.two (gx.cut _ _) (gc) (by omega), _, rfl, _, rfl, _, rfl, _, rfl, xs, _, _, rfl, rfl, Gd.two (Gd.app (gx.cut _ _) (gc)) (gx.cut _ _) (by omega), _, rfl, _, rfl, _, rfl, _, rfl, xs, _, rfl, _, rfl, _, _, rfl, rfl, _, rfl, _, rfl, xs, _, _, rfl, rfl, Gd.two (gx.cut _ _) (gx.cut _ _) (by omega), _, rfl, _, rfl, _, rfl, _, rfl, xs, _, rfl, _, _, rfl, rfl, Gd.two (gx.cut _ _) (gc) (by omega), _, rfl, _, rfl, _, _, rfl, rfl, _, rfl, _, rfl, xs, _, _, rfl, rfl, Gd.two (Gd.app (gx.cut _ _) (gc)) (gx.cut _ _) (by omega), rfl, fun l1 H4 s4 n4 h4 => ?_⟩
    refine ⟨_, rfl, _, rfl, _, rfl, _, rfl, _, _, rfl, rfl, _, rfl, _, rfl, xs, _, rfl, (gx.cut _ _).fit (by omega), fun rv rl rc => ?_⟩
    have gr : Gd k rv := ⟨Nat.le_trans rl (gx.cut _ _).len, fun c hc => (gx.cut _ _).ok c (rc c hc)⟩
    refine ⟨_, rfl, _, rfl, _, rfl, _, rfl, xs, _, _, rfl, ?_⟩
    refine ⟨_, rfl, _, rfl, _, rfl, _, rfl, _, rfl, xs, _, rfl, _, _, rfl, rfl, Gd.two (gx.cut _ _) (gr) (by omega), _, rfl, _, rfl, _, _, rfl, rfl, _, rfl, _, rfl, xs, _, _, rfl, rfl, Gd.two (Gd.app (gx.cut _ _) (gr)) (gx.cut _ _) (by omega), _, rfl, _, rfl, _, rfl, _, rfl, xs, _, rfl, _, rfl, _, rfl, (gx.cut _ _).fit (by omega), _, _, rfl, rfl, Gd.two (gx.cut _ _) ((gx.cut _ _).cut _ _) (by omega), _, rfl, _, _, rfl, rfl, Gd.two (Gd.app (gx.cut _ _) ((gx.cut _ _).cut _ _)) (gx.cut _ _) (by omega), rfl, fun l2 H5 s5 n5 h5 => ?_⟩
    refine ⟨l1, l2, _, _, rfl, rfl, s5 _ _ h4, h5, small (Nat.le_of_ble_eq_true rfl), fun l3 H6 s6 n6 h6 => ?_⟩
    obtain ⟨ws, ew, w1', w2', gw⟩ := gd_split gx
    refine ⟨_, rfl, ⟨_, rfl⟩, _, _, rfl, rfl, by decide +kernel, Nat.le_trans (Nat.add_le_add_right xl 2) (small (by omega)), fun sp hsp => ?_⟩
    rw [lit_stroke, ew]
    generalize eH : upd H6 sp (.lst (ws.map V.str)) = H7
    have s7 : Same H6 H7 := by rw [← eH]; exact same_new hsp
    have h7 : H7 sp = some (.lst (ws.map V.str)) := by rw [← eH]; exact upd_same
    refine ⟨rfl, fun l4 H8 s8 n8 h8 => ?_⟩
    refine ⟨sp, l4, _, _, rfl, rfl, s8 _ _ h7, h8, small (by rw [List.length_map]; show ws.length + 1 ≤ 100000; omega), fun l5 H9 s9 n9 h9 => ?_⟩
    refine ⟨_, rfl, l5, _, rfl, SqL.of h9, fun l6 H10 s10 n10 h10 => ?_⟩
    obtain ⟨tp, bt, et, gt, gb⟩ := gd_two w1' gw k1
    rw [et] at h10
    refine ⟨l6, _, rfl, SqL.of h10, rfl, _, _, rfl, _, _, rfl, rfl, ?_⟩
    refine ⟨_, rfl, _, rfl, _, _, rfl, rfl, Gd.two ((⟨by decide +kernel, by decide +kernel⟩ : Gd 1 "0")) (gx) (by omega), _, rfl, _, _, rfl, rfl, Gd.two ((⟨by decide +kernel, by decide +kernel⟩ : Gd 1 "-")) (gx) (by omega), _, rfl, _, _, rfl, rfl, Gd.two ((⟨by decide +kernel, by decide +kernel⟩ : Gd 1 "+")) (gx) (by omega), _, rfl, _, _, rfl, rfl, Gd.two (gt) ((⟨by decide +kernel, by decide +kernel⟩ : Gd 2 "/0")) (by omega), _, rfl, _, _, rfl, rfl, Gd.two (Gd.app (gt) ((⟨by decide +kernel, by decide +kernel⟩ : Gd 2 "/0"))) (gb) (by omega), _, rfl, _, _, rfl, rfl, Gd.two (gb) ((⟨by decide +kernel, by decide +kernel⟩ : Gd 1 "/")) (by omega), _, rfl, _, _, rfl, rfl, Gd.two (Gd.app (gb) ((⟨by decide +kernel, by decide +kernel⟩ : Gd 1 "/"))) (gt) (by omega), _, rfl, _, _, rfl, rfl, Gd.two (gt) ((⟨by decide +kernel, by decide +kernel⟩ : Gd 2 "/-")) (by omega), _, rfl, _, _, rfl, rfl, Gd.two (Gd.app (gt) ((⟨by decide +kernel, by decide +kernel⟩ : Gd 2 "/-"))) (gb) (by omega), rfl, fun l7 H11 s11 n11 h11 => ?_⟩
    have s611 : Same H6 H11 := s7.trans (s8.trans (s9.trans (s10.trans s11)))
    refine ⟨l3, l7, _, _, rfl, rfl, s611 _ _ h6, h11, small (Nat.le_of_ble_eq_true rfl), fun l8 H12 s12 n12 h12 => ?_⟩
    have gm : Gd 40 (Txt.mul "0" ((40 : Nat) : Int)) := ⟨by decide +kernel, by decide +kernel⟩
    refine ⟨_, rfl, _, rfl, _, _, rfl, rfl, Gd.two (gx) ((⟨by decide +kernel, by decide +kernel⟩ : Gd 1 "/")) (by omega), _, rfl, _, _, rfl, rfl, Gd.two (Gd.app (gx) ((⟨by decide +kernel, by decide +kernel⟩ : Gd 1 "/"))) (gb) (by omega), _, rfl, _, 40, rfl, rfl, by decide +kernel, by decide, _, _, rfl, rfl, Gd.two (gt) (gm) (by omega), _, _, rfl, rfl, Gd.two (Gd.app (gt) (gm)) ((⟨by decide +kernel, by decide +kernel⟩ : Gd 1 "/")) (by omega), _, rfl, _, _, rfl, rfl, Gd.two (Gd.app (Gd.app (gt) (gm)) ((⟨by decide +kernel, by decide +kernel⟩ : Gd 1 "/"))) (gb) (by omega), _, _, rfl, rfl, Gd.two (Gd.app (Gd.app (Gd.app (gt) (gm)) ((⟨by decide +kernel, by decide +kernel⟩ : Gd 1 "/"))) (gb)) ((⟨by decide +kernel, by decide +kernel⟩ : Gd 1 "0")) (by omega), rfl, fun l9 H13 s13 n13 h13 => ?_⟩
    refine ⟨l8, l9, _, _, rfl, rfl, s13 _ _ h12, h13, small (Nat.le_of_ble_eq_true rfl), fun l10 H14 s14 n14 h14 => ?_⟩
    have all : ∀ y ∈ ([cutS x none (some at_) ++ S [c] ++ cutS x (some at_) none, cutS x none (some at_) ++ cutS x (some (at_ + 1)) none, cutS x none (some at_) ++ S [c] ++ cutS x (some (at_ + 1)) none, cutS x none (some at_) ++ rv ++ cutS x (some (at_ + 2)) none, cutS x none (some at_) ++ cutS (cutS x (some at_) none) none (some 1) ++ cutS x (some at_) none, ("0" : Str) ++ x, ("-" : Str) ++ x, ("+" : Str) ++ x, tp ++ "/0" ++ bt, bt ++ "/" ++ tp, tp ++ "/-" ++ bt, x ++ "/" ++ bt, tp ++ Txt.mul "0" ((40 : Nat) : Int) ++ "/" ++ bt ++ "0"] : List Str), Gd (3 * k + 50) y := gd_cons (Gd.app (Gd.app (gx.cut _ _) (gc)) (gx.cut _ _)) (by omega) (gd_cons (Gd.app (gx.cut _ _) (gx.cut _ _)) (by omega) (gd_cons (Gd.app (Gd.app (gx.cut _ _) (gc)) (gx.cut _ _)) (by omega) (gd_cons (Gd.app (Gd.app (gx.cut _ _) (gr)) (gx.cut _ _)) (by omega) (gd_cons (Gd.app (Gd.app (gx.cut _ _) ((gx.cut _ _).cut _ _)) (gx.cut _ _)) (by omega) (gd_cons (Gd.app ((⟨by decide +kernel, by decide +kernel⟩ : Gd 1 "0")) (gx)) (by omega) (gd_cons (Gd.app ((⟨by decide +kernel, by decide +kernel⟩ : Gd 1 "-")) (gx)) (by omega) (gd_cons (Gd.app ((⟨by decide +kernel, by decide +kernel⟩ : Gd 1 "+")) (gx)) (by omega) (gd_cons (Gd.app (Gd.app (gt) ((⟨by decide +kernel, by decide +kernel⟩ : Gd 2 "/0"))) (gb)) (by omega) (gd_cons (Gd.app (Gd.app (gb) ((⟨by decide +kernel, by decide +kernel⟩ : Gd 1 "/"))) (gt)) (by omega) (gd_cons (Gd.app (Gd.app (gt) ((⟨by decide +kernel, by decide +kernel⟩ : Gd 2 "/-"))) (gb)) (by omega) (gd_cons (Gd.app (Gd.app (gx) ((⟨by decide +kernel, by decide +kernel⟩ : Gd 1 "/"))) (gb)) (by omega) (gd_cons (Gd.app (Gd.app (Gd.app (Gd.app (gt) (gm)) ((⟨by decide +kernel, by decide +kernel⟩ : Gd 1 "/"))) (gb)) ((⟨by decide +kernel, by decide +kernel⟩ : Gd 1 "0"))) (by omega) (gd_nil)))))))))))))
    obtain ⟨y, ey, gy⟩ := gd_ix all w0 (by show w < 13; exact w1)
    refine ⟨_, rfl, l10, _, w, _, rfl, rfl, SqL.of h14, ey, ?_⟩
    have s314 : Same H3 H14 := s4.trans (s5.trans (s6.trans (s611.trans (s12.trans (s13.trans s14)))))
    exact q y H14 gy ((B3.same s314).mono (by omega)) (F.trans (.of s314))

end
end KR
namespace KR
open PySem PySem.Spec PyProof.Rows L2
section
variable {P : Program} {w : World} {K : PySem.W.Frag} {mg : Str → Option Value} {base : Heap}
def sp_l_due : Sp := fun vs H Q _ => ∃ l : List Nat, vs = [.str (S l)] ∧ l.length ≤ 1000 ∧ ((∀ t b, ¬ Frac9 l t b) → ∀ H', Same H H' → Q (.str ("refused " ++ S l)) H') ∧ (∀ t b, Frac9 l t b → ∀ p H', Same H H' → H p = none → H' p = some (.tup [.int t, .int b]) → Q (.ref p) H')
theorem ok_l_due (T : All K mg) : FnOk P w K mg base CX0 3 T.f_l_due T.fd_l_due ["_law_text_here"] sp_l_due := by
  refine T.d_l_due.fn.ok sc_l_due (fun vs H Q E h => ?_) (fun cdv A outer s H vs Q E hr h => ?_)
  · obtain ⟨l, rfl, _⟩ := h
    rfl
  · obtain ⟨l, rfl, hl, qn, qs⟩ := h
    refine ⟨_, (pss_cons (ps_set (i := 1) sc_l_due.nd rfl (by first | exact Or.inl rfl | exact Or.inr rfl) (pe_call (ok_l_read T) hr (by rfl) T.d_l_read.mg T.d_l_read.fn.kp T.d_l_read.b .nil pass0 (pa_cons (pv 0) pa_nil)))
      (pss_one (ps_ret (pe_ifExp (pt_cmpR op_isN (pv 1) pe_non (nomark _)) (pe_op op_add_str pe_str (pv 0)) (pv 1))))), ?_⟩
    refine ⟨_, rfl, l, rfl, hl, fun no H1 s1 => ?_, fun t b F p H1 s1 n1 h1 => ?_⟩
    · refine ⟨_, rfl, rfl, _, rfl, iteT ?_⟩
      refine ⟨_, rfl, _, _, rfl, rfl, ?_, qn no H1 s1⟩
      rw [S_len l]
      have : ("refused " : Str).length ≤ 100 := by decide +kernel
      exact small (by omega)
    · refine ⟨_, rfl, rfl, _, rfl, iteF ?_⟩
      exact ⟨_, rfl, qs t b F p H1 s1 n1 h1⟩

end
end KR
namespace KR
open PySem PySem.Spec PyProof.Rows L2
section
variable {P : Program} {w : World} {K : PySem.W.Frag} {mg : Str → Option Value} {base : Heap}
theorem okL_num {n : Nat} (h : n < 10 ^ 40) : okL (TL.numL n) = true := by
  unfold okL
  rw [figs_num, Bool.and_true]
  exact decide_eq_true (TL.numL_len (by decide) h)
theorem read_frac {t b : Int} (h : IsLow t b) (ht : t.natAbs < 10 ^ 40) (hb : b.natAbs < 10 ^ 40) : readL (fracL t b) = some (t, b) := by
  obtain ⟨e1, e2⟩ := bare_frac t b
  have pos := h.pos
  have c : (cutL (bareL (fracL t b))).1 = TL.numL t.natAbs ∧ okL (botL (fracL t b)) = true ∧ ((NumText.digitsVal (botL (fracL t b)) : Nat) : Int) = b := by
    unfold botL
    rw [e1]
    by_cases b1 : b = 1
    · rw [if_pos b1, List.append_nil, cut_none (TL.numL_free (by decide)), b1]
      exact ⟨rfl, by show okL [49] = true; decide +kernel, by show ((NumText.digitsVal [49] : Nat) : Int) = 1; decide +kernel⟩
    · rw [if_neg b1, cut_app (TL.numL_free (by decide))]
      refine ⟨rfl, okL_num hb, ?_⟩
      show ((NumText.digitsVal (TL.numL b.natAbs) : Nat) : Int) = b
      rw [TL.numL_val]
      omega
  obtain ⟨c1, c2, c3⟩ := c
  unfold readL
  rw [if_pos c2, c1, if_pos (okL_num ht), c3, TL.numL_val]
  by_cases z : t < 0
  · rw [if_pos (e2.mpr z)]
    have : -((t.natAbs : Nat) : Int) = t := by omega
    rw [this]
  · rw [if_neg fun y => z (e2.mp y)]
    have : ((t.natAbs : Nat) : Int) = t := by omega
    rw [this]
theorem frac_len9 {t b : Int} (ht : t.natAbs < 10 ^ 40) (hb : b.natAbs < 10 ^ 40) : (fracL t b).length ≤ 82 := by
  have h1 := TL.numL_len (k := 40) (by decide) ht
  have h2 := TL.numL_len (k := 40) (by decide) hb
  have h3 : (if t < 0 then [45] else [] : List Nat).length ≤ 1 := by split <;> decide
  have h4 : (if b = 1 then [] else 47 :: TL.numL b.natAbs : List Nat).length ≤ 41 := by
    split
    · exact Nat.zero_le _
    · rw [List.length_cons]
      omega
  unfold fracL
  rw [List.length_append, List.length_append]
  omega
theorem okL_lt {l : List Nat} (h : okL l = true) : NumText.digitsVal l < 10 ^ 40 := by
  unfold okL at h
  rw [Bool.and_eq_true] at h
  have z := of_decide_eq_true h.1
  have f := h.2
  unfold figs at f
  rw [Bool.and_eq_true] at f
  have d : l.all digC = true := f.2
  exact Nat.lt_of_lt_of_le (dv_lt _ l rfl (all_dig d)) (Nat.pow_le_pow_right (by decide) z)
theorem read_lt {l : List Nat} {t b : Int} (h : readL l = some (t, b)) : t.natAbs < 10 ^ 40 ∧ b.natAbs < 10 ^ 40 := by
  unfold readL at h
  by_cases c1 : okL (cutL (bareL l)).1 = true
  · rw [if_pos c1] at h
    by_cases c2 : okL (botL l) = true
    · rw [if_pos c2] at h
      have e := Option.some.inj h
      have e1 := congrArg Prod.fst e
      have e2 := congrArg Prod.snd e
      have k1 := okL_lt c1
      have k2 := okL_lt c2
      dsimp only at e1 e2
      refine ⟨?_, by omega⟩
      by_cases m : l.head? = some 45
      · rw [if_pos m] at e1
        omega
      · rw [if_neg m] at e1
        omega
    · rw [if_neg c2] at h
      cases h
  · rw [if_neg c1] at h
    cases h
/-- what frac_in looks at is just this law's own reading -/
theorem read_is {l : List Nat} {t b : Int} : Frac9 l t b ↔ readL l = some (t, b) ∧ isFracD (.tuple [.int t, .int b]) = true ∧ fracL t b = l := by
  have isf : isFracD (.tuple [.int t, .int b]) = (decide (0 < b) && decide (Nat.gcd t.natAbs b.natAbs = 1)) := rfl
  constructor
  · intro F
    refine ⟨by rw [F.eq]; exact read_frac F.low F.ta F.tb, ?_, F.eq.symm⟩
    rw [isf, decide_eq_true F.low.pos, decide_eq_true F.low.cop] <;> rfl
  · rintro ⟨h1, h2, h3⟩
    rw [isf, Bool.and_eq_true] at h2
    obtain ⟨k1, k2⟩ := read_lt h1
    exact ⟨⟨of_decide_eq_true h2.1, of_decide_eq_true h2.2⟩, k1, k2, h3.symm⟩
def sp_p_frac_in (C : Addr) : Sp := fun vs H Q E => ∃ l : List Nat, vs = [.str (S l)] ∧ l.length ≤ 1000 ∧ (∀ t b, Frac9 l t b → ∀ p H', Same H H' → H p = none → H' p = some (.tup [.int t, .int b]) → Q (.ref p) H') ∧
  ((∀ t b, ¬ Frac9 l t b) → ∀ d H', Same H H' → H' d = some (.xd (wh "BadFrac" (.str (S l)))) → E (.ref C) (some d) H')
theorem ok_p_frac_in (T : All K mg) : FnOk P w K mg base (L2.CX P w) 3 T.f_p_frac_in T.fd_p_frac_in ["text"] (sp_p_frac_in T.C_BadFrac) := by
  refine T.d_p_frac_in.fn.okX sc_p_frac_in (fun vs H Q E h => ?_) (fun cdv A outer s H vs Q E hr h => ?_)
  · obtain ⟨l, rfl, _⟩ := h
    rfl
  · obtain ⟨l, rfl, hl, qs, qn⟩ := h
    refine ⟨_, (pss_cons (ps_set (i := 1) sc_p_frac_in.nd rfl (by first | exact Or.inl rfl | exact Or.inr rfl) (pe_call (ok_p__read T) hr (by rfl) T.d_p__read.mg T.d_p__read.fn.kp T.d_p__read.b .nil pass0 (pa_cons (pv 0) pa_nil)))
      (pss_cons (ps_if (PW.pt (pw_or (pt_not (pt_val (pe_call (ok_p_is_frac T) hr (by rfl) T.d_p_is_frac.mg T.d_p_is_frac.fn.kp T.d_p_is_frac.b .nil pass0 (pa_cons (pv 1) pa_nil)))) (pw_or1 (pt_cmpR op_ne (pe_call (ok_p_frac_text T) hr (by rfl) T.d_p_frac_text.mg T.d_p_frac_text.fn.kp T.d_p_frac_text.b .nil pass0 (pa_cons (pv 1) pa_nil)) (pv 0) (nomark _))))) (pss_one (ps_raise rfl (takes_of rfl rfl rfl rfl) (pmk_oex T.O_BadFrac T.i_BadFrac T.tI_BadFrac (ok_init_BadFrac T) hr T.bI_BadFrac .nil pass0 rfl T.g_BadFrac (by exact (pa_cons (pv 0) pa_nil))))) pss_nil)
      (pss_one (ps_ret (pv 1))))), ?_⟩
    -- the way out
    have out : (∀ t b, ¬ Frac9 l t b) → ∀ H1, Same H H1 → tMkO T.C_BadFrac (sp_initX T.C_BadFrac "BadFrac") [] (tCons (tVar 0) tNil) [some (.str (S l)), none] H1 (fun cls d H' => E cls d H') := by
      intro no H1 s1
      refine ⟨_, rfl, by show 1 ≤ 1000; decide, fun a ha => ⟨a, .str (S l), rfl, upd_same, fun d hd hne => ?_⟩⟩
      rw [upd_ne hne] at hd
      exact ⟨rfl, d, (wh "BadFrac" (.str (S l))), upd_same, by rw [upd_ne hne, upd_same], hd, qn no d _ (s1.trans (raised_keeps ha hd)) upd_same⟩
    have w : ∀ {n : Nat}, n < 10 ^ 40 → n < 10 ^ 64 := fun h => Nat.lt_trans h (by decide)
    refine ⟨_, rfl, l, rfl, hl, fun e H1 s1 => ?_, fun t b e p H1 s1 n1 h1 => ?_⟩
    · have no : ∀ t b, ¬ Frac9 l t b := fun t b F => by
        rw [(read_is.mp F).1] at e
        cases e
      refine ⟨_, rfl, (0 : Nat), 1, _, .none, rfl, .non 0, ?_⟩
      exact ⟨_, rfl, iteT (iteT (out no H1 s1))⟩
    · refine ⟨_, rfl, p + 1, 2, _, .tuple [.int t, .int b], rfl, .tup (Nat.ne_of_lt (Nat.lt_succ_self p)) h1 rfl (by show 2 ≤ 100000; decide) (fun i u v hu hv => match i, hu, hv with
        | 0, hu, hv => by cases hu; cases hv; exact .int 0 t
        | 1, hu, hv => by cases hu; cases hv; exact .int 0 b
        | i + 2, hu, _ => by simp at hu), ?_⟩
      have only : ∀ t' b', Frac9 l t' b' → t' = t ∧ b' = b := fun t' b' F => by
        have z := (read_is.mp F).1
        rw [e] at z
        have z2 := Option.some.inj z
        exact ⟨(congrArg Prod.fst z2).symm, (congrArg Prod.snd z2).symm⟩
      obtain ⟨bt, bb⟩ := read_lt e
      cases isf : isFracD (.tuple [.int t, .int b]) with
      | false =>
        have no : ∀ t b, ¬ Frac9 l t b := fun t' b' F => by
          obtain ⟨e1, e2⟩ := only t' b' F
          rw [e1, e2] at F
          rw [(read_is.mp F).2.1] at isf
          cases isf
        exact ⟨_, rfl, iteT (iteT (out no H1 s1))⟩
      | true =>
        have lo : 0 < b := by
          have z : (decide (0 < b) && decide (Nat.gcd t.natAbs b.natAbs = 1)) = true := isf
          rw [Bool.and_eq_true] at z
          exact of_decide_eq_true z.1
        refine ⟨_, rfl, iteF ?_⟩
        refine ⟨_, rfl, p, t, b, rfl, SqT.of h1, w bt, Int.le_of_lt lo, w bb, fun H2 s2 => ?_⟩
        by_cases same : fracL t b = l
        · refine ⟨_, rfl, rfl, _, rfl, ?_⟩
          rw [same, decide_eq_true rfl]
          refine iteF ?_
          exact ⟨_, rfl, qs t b (read_is.mpr ⟨e, isf, same⟩) p H2 (s1.trans s2) n1 (s2 _ _ h1)⟩
        · have no : ∀ t b, ¬ Frac9 l t b := fun t' b' F => by
            obtain ⟨e1, e2⟩ := only t' b' F
            rw [e1, e2] at F
            exact same (read_is.mp F).2.2
          refine ⟨_, rfl, rfl, _, rfl, ?_⟩
          have ne : V.str (S (fracL t b)) ≠ V.str (S l) := fun z => same (by
            have y := congrArg TL.tl (V.str.inj z)
            exact y)
          rw [decide_eq_false ne]
          exact iteT (out no H2 (s1.trans s2))

end
end KR
namespace KR
open PySem PySem.Spec PyProof.Rows L2
section
variable {P : Program} {w : World} {K : PySem.W.Frag} {mg : Str → Option Value} {base : Heap}
theorem ok_l_found (T : All K mg) : FnOk P w K mg base CX0 4 T.f_l_found T.fd_l_found ["_law_text_here"] sp_l_due := by
  refine T.d_l_found.fn.ok sc_l_found (fun vs H Q E h => ?_) (fun cdv A outer s H vs Q E hr h => ?_)
  · obtain ⟨l, rfl, _⟩ := h
    rfl
  · obtain ⟨l, rfl, hl, qn, qs⟩ := h
    refine ⟨_, (pss_cons (ps_asg (pe_tupI (pa_cons pe_non (pa_cons pe_non pa_nil))) (pg_tupK (K := K) rfl rfl (pgs_cons (pg_name (i := 1) sc_l_found.nd rfl (Or.inl rfl)) (pgs_cons (pg_name (i := 2) sc_l_found.nd rfl (Or.inl rfl)) pgs_nil))))
      (pss_cons (ps_try_keep (i := 3) (tb := fun W => tAsg (tCallS (sp_p_frac_in T.C_BadFrac) (WE W) (tCons (tVar 0) tNil)) (gName 2)) (ts := fun a cls d => tAsg (tVar 3) (gName 1)) (Wo := fun _ _ _ _ => False) rfl rfl sc_l_found.nd rfl rfl ⟨rfl, by decide, Or.inl T.g_BoilError⟩ takes0 (fun W pn xe tk _ => pss_one (ps_set (i := 2) sc_l_found.nd rfl (Or.inl rfl) (by exact (pe_callS (ok_p_frac_in T) hr rfl T.d_p_frac_in.mg T.d_p_frac_in.fn.kp T.d_p_frac_in.b (fun σ => passAt tk σ) (by exact (pa_cons (pv 0) pa_nil)))))) (fun a ob cls d pn z f => pss_one (ps_set (i := 1) sc_l_found.nd rfl (Or.inl rfl) (pv 3))))
      (pss_cons (ps_if (pt_cmpR op_isN (pv 1) pe_non (nomark _)) (pss_cons (ps_set (i := 4) sc_l_found.nd rfl (by first | exact Or.inl rfl | exact Or.inr rfl) (pe_and (pe_callB (isiK (K := K) rfl) (by rfl) T.b_isinstance (by decide +kernel) (pa_cons (pv 2) (pa_cons (pe_bltn (v := .ty "tuple") (by rfl) T.b_tuple (by decide +kernel) rfl) pa_nil))) (pe_one (pe_callB (allK (K := K) rfl rfl) (by rfl) T.b_all (by decide +kernel) (pa_cons (pe_lc (own := [("_law_part", 5)]) (g := gName 5) (tt := tYes) (by rfl) sc_l_found.nd (pi_tupK (K := K) rfl (pv 2)) (blkOk_by (own := [("_law_part", 5)]) (N := ["_law_text_here", "_law_caught", "_law_found_here", "error", "_law_whole", "_law_part"]) (sc := defScope s_l_found) (by decide +kernel)) (fun _ _ _ _ _ => (pg_name (i := 5) sc_l_found.nd rfl (by first | exact Or.inl rfl | exact Or.inr rfl))) (fun _ _ _ _ _ => pts_nil) (fun _ _ _ _ _ => (pe_callB (isiK (K := K) rfl) (by rfl) T.b_isinstance (by decide +kernel) (pa_cons (pv 5) (pa_cons (pe_bltn (v := .ty "int") (by rfl) T.b_int (by decide +kernel) rfl) pa_nil))))) pa_nil)))))
      (pss_one (ps_ret (pe_ifExp (PW.pt (pw_and (pt_val (pv 4)) (pw_and1 (pt_cmpR (notInQ (K := K) rfl) pe_bl (pe_lc (own := [("_law_part", 5)]) (g := gName 5) (tt := tYes) (by rfl) sc_l_found.nd (pi_tupK (K := K) rfl (pv 2)) (blkOk_by (own := [("_law_part", 5)]) (N := ["_law_text_here", "_law_caught", "_law_found_here", "error", "_law_whole", "_law_part"]) (sc := defScope s_l_found) (by decide +kernel)) (fun _ _ _ _ _ => (pg_name (i := 5) sc_l_found.nd rfl (by first | exact Or.inl rfl | exact Or.inr rfl))) (fun _ _ _ _ _ => pts_nil) (fun _ _ _ _ _ => (pe_callB (isiK (K := K) rfl) (by rfl) T.b_isinstance (by decide +kernel) (pa_cons (pv 5) (pa_cons (pe_bltn (v := .ty "bool") (by rfl) T.b_bool (by decide +kernel) rfl) pa_nil))))) (by with_unfolding_all rfl))))) (pv 2) pe_str)))) pss_nil)
      (pss_cons (ps_if (PW.pt (pw_or (pt_val (pe_callB (isXT (K := K) rfl) (by rfl) T.b_isinstance (by decide +kernel) (pa_cons (pv 1) (pa_cons (pe_tupI (pa_cons (pe_glob (v := .ref T.C_BadDeed) rfl T.g_BadDeed rfl) (pa_cons (pe_glob (v := .ref T.C_BadRow) rfl T.g_BadRow rfl) (pa_cons (pe_glob (v := .ref T.C_NoHour) rfl T.g_NoHour rfl) (pa_cons (pe_glob (v := .ref T.C_NoShare) rfl T.g_NoShare rfl) pa_nil))))) pa_nil)))) (pw_or1 (pt_not (pt_val (pe_callB (isX (K := K) rfl) (by rfl) T.b_isinstance (by decide +kernel) (pa_cons (pv 1) (pa_cons (pe_bltn (v := .ty "ValueError") (by rfl) T.b_ValueError (by decide +kernel) rfl) pa_nil)))))))) (pss_one (ps_ret pe_str)) pss_nil)
      (pss_one (ps_ret (pe_ifExp (pt_val (pe_callB (isX (K := K) rfl) (by rfl) T.b_isinstance (by decide +kernel) (pa_cons (pv 1) (pa_cons (pe_glob (v := .ref T.C_BadFrac) rfl T.g_BadFrac rfl) pa_nil)))) (pe_op op_add_str pe_str (pe_what rfl (pv 1))) pe_str))))))), ?_⟩
    refine ⟨rfl, fun nn H0 s0 n0 h0 => ⟨nn, _, rfl, SqT.of h0, rfl, _, _, rfl, _, _, rfl, rfl, ?_⟩⟩
    refine ⟨_, rfl, l, rfl, hl, fun t b F p H1 s1 n1 h1 => ?_, fun no d H1 s1 hd => ?_⟩
    · -- a fraction
      refine ⟨_, rfl, rfl, _, rfl, iteT ?_⟩
      have ty : TyX K H1 (.ref p) (.type "tuple") := .base (.tup h1)
      have kt : kitB "tuple" "tuple" = some true := by decide +kernel
      have ki : kitB "int" "int" = some true := by decide +kernel
      have kb : kitB "int" "bool" = some false := by decide +kernel
      refine ⟨_, rfl, _, _, _, _, _, rfl, .ty _, ty, kit_ty kt, _, rfl, iteT ?_⟩
      have q2 : ∀ H', Same H H' → H' p = some (.tup [.int t, .int b]) → Q (.ref p) H' := fun H' s' h' => qs t b F p H' s' (s0.free n1) h'
      have pick : ∀ {i : Nat} {z : V}, ([V.int t, V.int b] : List V)[i]? = some z → ∃ k : Int, z = .int k := fun {i z} hz => match i, hz with
        | 0, hz => by cases hz; exact ⟨t, rfl⟩
        | 1, hz => by cases hz; exact ⟨b, rfl⟩
        | i + 2, hz => by simp at hz
      refine ⟨_, rfl, p, rfl, ⟨_, SqT.of h1⟩, fun D hD => ?_⟩
      have keep : ∀ acc : List V, Same H1 (upd H1 D (.lst acc)) := fun acc => same_new hD
      refine lc_tup (K := K) (a := p) (xs := [.int t, .int b]) (fun i H' => H' = upd H1 D (.lst (List.replicate i (.bl true)))) rfl (fun i H' _ e => by rw [e]; exact SqT.of (keep _ _ _ h1)) ?_ ?_
      · rintro i z H' hi rfl
        have i2 : i < 2 := (List.getElem?_eq_some_iff.mp hi).1
        obtain ⟨k, rfl⟩ := pick hi
        refine ⟨rfl, yesT ?_⟩
        refine ⟨_, rfl, _, _, _, _, _, rfl, .ty _, .base (.int k), kit_ty ki, ?_⟩
        exact ⟨_, upd_same, by rw [List.length_replicate]; exact small' (by omega), by rw [upd_upd, List.replicate_succ'] <;> rfl⟩
      rintro H2 rfl
      refine ⟨D, [true, true], rfl, SqL.of upd_same, ?_⟩
      have h2 := keep (List.replicate 2 (.bl true)) _ _ h1
      have s02 := (s0.trans s1).trans (keep (List.replicate 2 (.bl true)))
      generalize upd H1 D (.lst (List.replicate ([V.int t, V.int b] : List V).length (.bl true))) = H2 at *
      refine ⟨_, rfl, true, rfl, iteT ?_⟩
      refine ⟨_, rfl, p, rfl, ⟨_, SqT.of h2⟩, fun D2 hD2 => ?_⟩
      have keep2 : ∀ acc : List V, Same H2 (upd H2 D2 (.lst acc)) := fun acc => same_new hD2
      refine lc_tup (K := K) (a := p) (xs := [.int t, .int b]) (fun i H' => H' = upd H2 D2 (.lst (List.replicate i (.bl false)))) rfl (fun i H' _ e => by rw [e]; exact SqT.of (keep2 _ _ _ h2)) ?_ ?_
      · rintro i z H' hi rfl
        have i2 : i < 2 := (List.getElem?_eq_some_iff.mp hi).1
        obtain ⟨k, rfl⟩ := pick hi
        refine ⟨rfl, yesT ?_⟩
        refine ⟨_, rfl, _, _, _, _, _, rfl, .ty _, .base (.int k), kit_ty kb, ?_⟩
        exact ⟨_, upd_same, by rw [List.length_replicate]; exact small' (by omega), by rw [upd_upd, List.replicate_succ'] <;> rfl⟩
      rintro H3 rfl
      refine ⟨D2, [.bl false, .bl false], rfl, .inl (SqL.of upd_same), rfl, rfl, _, rfl, ite_bT (by decide) ?_⟩
      have h3 := keep2 (List.replicate 2 (.bl false)) _ _ h2
      exact ⟨_, rfl, q2 _ (s02.trans (keep2 (List.replicate 2 (.bl false)))) h3⟩
    · -- refused
      refine ⟨true, T.te, fun _ a ha => ⟨_, rfl, ?_⟩, fun z => nomatch z⟩
      have ne : d ≠ a := fun z => by
        rw [z, ha] at hd
        cases hd
      have sa : Same H1 (upd H1 a (ExK (.ref T.C_BadFrac) (some d) a)) := same_new ha
      have kp : Kept K (upd H1 a (ExK (.ref T.C_BadFrac) (some d) a)) a T.C_BadFrac d (.str (S l)) := ⟨T.E_BadFrac, upd_same, ⟨_, sa _ _ hd⟩⟩
      have s02 := (s0.trans s1).trans sa
      refine ⟨_, rfl, rfl, _, rfl, iteF ?_⟩
      refine ⟨_, rfl, rfl, fun tp H3 s3 n3 h3 => ?_⟩
      have k3 := kp.same s3
      refine ⟨a, T.C_BadFrac, d, tp, .str (S l), _, _, false, rfl, k3, h3, .cons (.own _) (.cons (.own _) (.cons (.own _) (.cons (.own _) .nil))), T.k4, false, rfl, iteF ?_⟩
      refine ⟨_, rfl, a, T.C_BadFrac, d, .str (S l), .ty "ValueError", _, true, rfl, k3, .ty _, T.kV, true, rfl, iteF ?_⟩
      refine ⟨_, rfl, a, T.C_BadFrac, d, .str (S l), .ref T.C_BadFrac, _, true, rfl, k3, .own _, T.kF, true, rfl, iteT ?_⟩
      refine ⟨_, rfl, a, T.C_BadFrac, d, .str (S l), rfl, k3, _, _, rfl, rfl, ?_, qn no H3 (s02.trans s3)⟩
      rw [S_len l]
      have : ("refused " : Str).length ≤ 100 := by decide +kernel
      exact small (by omega)

end
end KR
namespace KR
open PySem PySem.Spec PyProof.Rows L2
section
variable {P : Program} {w : World} {K : PySem.W.Frag} {mg : Str → Option Value} {base : Heap}
theorem frac_codes (t b : Int) : ∀ c ∈ fracL t b, c < 128 := by
  intro c hc
  unfold fracL at hc
  have num : ∀ n, c ∈ TL.numL n → c < 128 := fun n h => by
    have := TL.numL_digits n c h
    omega
  rcases List.mem_append.mp hc with h | h
  · by_cases z : t < 0
    · rw [if_pos z] at h
      rw [List.mem_singleton.mp h]
      decide
    · rw [if_neg z] at h
      cases h
  · rcases List.mem_append.mp h with h | h
    · exact num _ h
    · by_cases z : b = 1
      · rw [if_pos z] at h
        cases h
      · rw [if_neg z] at h
        rcases List.mem_cons.mp h with h | h
        · rw [h]
          decide
        · exact num _ h
def sp_l_right : Sp := fun vs H Q _ => ∃ (p : Addr), vs = [.ref p] ∧ BoxAt H p 0 ∧ ∀ H', Fr p H H' → Q (.bl true) H'
/-- what is told of a text: a text, or a fraction -/
inductive Told (H : Hp) (l : List Nat) : V → Prop
  | no (h : ∀ t b, ¬ Frac9 l t b) : Told H l (.str ("refused " ++ S l))
  | yes {p : Addr} {t b : Int} (F : Frac9 l t b) (h : H p = some (.tup [.int t, .int b])) : Told H l (.ref p)
theorem Told.same {H H' : Hp} {l : List Nat} {v : V} (h : Told H l v) (s : Same H H') : Told H' l v := by
  cases h with
  | no h => exact .no h
  | yes F h => exact .yes F (s _ _ h)
theorem told_of {H : Hp} {l : List Nat} {Q : VK} (hl : l.length ≤ 1000) (q : ∀ v H', Same H H' → Told H' l v → Q v H') : sp_l_due [.str (S l)] H Q E0 := by
  refine ⟨l, rfl, hl, fun no H' s => q _ H' s (.no no), fun t b F p H' s _ h => q _ H' s (.yes F h)⟩
theorem refused_lay {l : List Nat} (hl : ∀ c ∈ l, c < 128) : PyData.canLay0 (.str (("refused " : Str) ++ S l)) = true := by
  have e : (("refused " : Str) ++ S l) = S ([114, 101, 102, 117, 115, 101, 100, 32] ++ l) := by
    rw [S_app] <;> rfl
  show PyData.strOk (("refused " : Str) ++ S l) = true
  rw [e]
  unfold PyData.strOk
  rw [← Array.all_toList, List.all_eq_true]
  intro c hc
  have hc' : c ∈ [114, 101, 102, 117, 115, 101, 100, 32] ++ l := hc
  rcases List.mem_append.mp hc' with h | h
  · have k : ∀ d ∈ ([114, 101, 102, 117, 115, 101, 100, 32] : List Nat), d < 128 := by decide
    exact decide_eq_true (Nat.lt_trans (k c h) (by decide))
  · exact decide_eq_true (Nat.lt_trans (hl c h) (by decide))
/-- two told of one text are alike -/
theorem told_alike {K : PySem.W.Frag} {H : Hp} {l : List Nat} {v w : V} (hl : ∀ c ∈ l, c < 128) (h1 : Told H l v) (h2 : Told H l w) : ∃ d, Dp K H v d ∧ Dp K H w d ∧ PyData.canLay0 d = true ∧ PyData.depth d ≤ 1 := by
  cases h1 with
  | no n1 =>
    cases h2 with
    | no n2 => exact ⟨_, .str _, .str _, refused_lay hl, by show 0 ≤ 1; decide⟩
    | yes F h => exact absurd F (n1 _ _)
  | yes F h =>
    cases h2 with
    | no n2 => exact absurd F (n2 _ _)
    | yes F2 h2 =>
      have z1 := (read_is.mp F).1
      have z2 := (read_is.mp F2).1
      rw [z1] at z2
      cases z2
      exact ⟨_, dp_pair h, dp_pair h2, rfl, by show 1 ≤ 1; decide⟩
def ToldAll (H : Hp) : List (List Nat) → List V → Prop
  | [], [] => True
  | l :: ls, v :: vs => Told H l v ∧ ToldAll H ls vs
  | _, _ => False
theorem ToldAll.snoc {H : Hp} {l : List Nat} {v : V} (h : Told H l v) : ∀ {ls : List (List Nat)} {vs : List V}, ToldAll H ls vs → ToldAll H (ls ++ [l]) (vs ++ [v])
  | [], [], _ => ⟨h, trivial⟩
  | _ :: _, _ :: _, ⟨a, b⟩ => ⟨a, ToldAll.snoc h b⟩
theorem ToldAll.mono {H H' : Hp} (k : ∀ l v, Told H l v → Told H' l v) : ∀ {ls : List (List Nat)} {vs : List V}, ToldAll H ls vs → ToldAll H' ls vs
  | [], [], _ => trivial
  | _ :: _, _ :: _, ⟨a, b⟩ => ⟨k _ _ a, ToldAll.mono k b⟩
theorem told_upd {H : Hp} {D : Addr} {xs ys : List V} (hD : H D = some (.lst xs)) : ∀ l v, Told H l v → Told (upd H D (.lst ys)) l v := fun l v h => by
  cases h with
  | no n => exact .no n
  | yes F h => exact .yes F (by rw [upd_ne (ne_of h hD (by intro z; cases z))]; exact h)
theorem ToldAll.alike {K : PySem.W.Frag} {H : Hp} : ∀ {ls : List (List Nat)} {vs ws : List V}, (∀ l ∈ ls, ∀ c ∈ l, c < 128) → ToldAll H ls vs → ToldAll H ls ws → ∃ ds, DpAll K H vs ds ∧ DpAll K H ws ds ∧ PyData.canLayAll0 ds = true ∧ PyData.depthAll ds ≤ 1
  | [], [], [], _, _, _ => ⟨[], .nil, .nil, rfl, by decide⟩
  | l :: ls, v :: vs, w :: ws, hl, ⟨a1, a2⟩, ⟨b1, b2⟩ => by
    obtain ⟨d, e1, e2, e3, e4⟩ := told_alike (K := K) (hl l List.mem_cons_self) a1 b1
    obtain ⟨ds, f1, f2, f3, f4⟩ := ToldAll.alike (K := K) (fun m hm => hl m (List.mem_cons_of_mem _ hm)) a2 b2
    refine ⟨d :: ds, .cons e1 f1, .cons e2 f2, ?_, ?_⟩
    · show (PyData.canLay0 d && PyData.canLayAll0 ds) = true
      rw [e3, f3] <;> rfl
    · show max (PyData.depth d) (PyData.depthAll ds) ≤ 1
      omega
theorem told_len {H : Hp} : ∀ {ls : List (List Nat)} {vs : List V}, ToldAll H ls vs → vs.length = ls.length
  | [], [], _ => rfl
  | _ :: _, _ :: _, ⟨_, b⟩ => by rw [List.length_cons, List.length_cons, told_len b]
theorem ok_l_right (T : All K mg) : FnOk P w K mg base CX0 5 T.f_l_right T.fd_l_right ["_law_box_here"] sp_l_right := by
  refine T.d_l_right.fn.ok sc_l_right (fun vs H Q E h => ?_) (fun cdv A outer s H vs Q E hr h => ?_)
  · obtain ⟨p, rfl, _⟩ := h
    rfl
  · obtain ⟨p, rfl, hB, q⟩ := h
    refine ⟨_, (pss_cons (ps_for PassesOwn.never rfl (pi_range1 (by rfl) T.b_range (pa_cons pe_int pa_nil)) (pg_name (i := 1) sc_l_right.nd rfl (by first | exact Or.inl rfl | exact Or.inr rfl)) (pss_cons (ps_set (i := 2) sc_l_right.nd rfl (by first | exact Or.inl rfl | exact Or.inr rfl) (pe_call (ok_l_text T) (hr.mono (by decide)) (by rfl) T.d_l_text.mg T.d_l_text.fn.kp T.d_l_text.b .nil pass0 (pa_cons (pe_call (ok_l_frac T) (hr.mono (by decide)) (by rfl) T.d_l_frac.mg T.d_l_frac.fn.kp T.d_l_frac.b .nil pass0 (pa_cons (pv 0) (pa_cons pe_bl pa_nil))) pa_nil)))
      (pss_cons (ps_set (i := 3) sc_l_right.nd rfl (by first | exact Or.inl rfl | exact Or.inr rfl) (pe_call (ok_l_bent T) (hr.mono (by decide)) (by rfl) T.d_l_bent.mg T.d_l_bent.fn.kp T.d_l_bent.b .nil pass0 (pa_cons (pv 0) (pa_cons (pv 2) pa_nil))))
      (pss_cons (ps_J (ps_if (pt_cmpR op_eq (pe_call (ok_l_take T) (hr.mono (by decide)) (by rfl) T.d_l_take.mg T.d_l_take.fn.kp T.d_l_take.b .nil pass0 (pa_cons (pv 0) (pa_cons pe_int pa_nil))) pe_int (nomark _)) (pss_one (ps_set (i := 3) sc_l_right.nd rfl (by first | exact Or.inl rfl | exact Or.inr rfl) (pe_call (ok_l_bent T) (hr.mono (by decide)) (by rfl) T.d_l_bent.mg T.d_l_bent.fn.kp T.d_l_bent.b .nil pass0 (pa_cons (pv 0) (pa_cons (pv 3) pa_nil))))) pss_nil))
      (pss_one (ps_for PassesOwn.never rfl (pi_tupK (K := K) rfl (pe_tupI (pa_cons (pv 3) (pa_cons (pv 2) (pa_cons (pe_op op_add_str (pv 2) pe_str) (pa_cons (pe_op op_add_str (pv 2) pe_str) (pa_cons (pe_op op_add_str pe_str (pv 2)) pa_nil))))))) (pg_name (i := 4) sc_l_right.nd rfl (by first | exact Or.inl rfl | exact Or.inr rfl)) (pss_one (ps_if (pt_cmpR (neDK (K := K) rfl hr.units) (pe_call (ok_l_found T) hr (by rfl) T.d_l_found.mg T.d_l_found.fn.kp T.d_l_found.b .nil pass0 (pa_cons (pv 4) pa_nil)) (pe_call (ok_l_due T) (hr.mono (by decide)) (by rfl) T.d_l_due.mg T.d_l_due.fn.kp T.d_l_due.b .nil pass0 (pa_cons (pv 4) pa_nil)) (nomark _)) (pss_one (ps_ret pe_bl)) pss_nil))))))))
      (pss_cons (ps_set (i := 5) sc_l_right.nd rfl (by first | exact Or.inl rfl | exact Or.inr rfl) (pe_lstI (pa_cons pe_str (pa_cons pe_str (pa_cons pe_str (pa_cons pe_str (pa_cons pe_str (pa_cons pe_str (pa_cons pe_str (pa_cons (pe_op op_mul_str pe_str pe_int) (pa_cons (pe_op op_mul_str pe_str pe_int) (pa_cons (pe_op op_add_str pe_str (pe_op op_mul_str pe_str pe_int)) (pa_cons (pe_op op_add_str pe_str (pe_op op_mul_str pe_str pe_int)) (pa_cons pe_str (pa_cons pe_str pa_nil)))))))))))))))
      (pss_one (ps_ret (pe_cmpR (eqDK (K := K) rfl hr.units) (pe_lc (own := [("_law_text_here", 2)]) (g := gName 2) (tt := tYes) (by rfl) sc_l_right.nd (pi_listK (K := K) rfl (pv 5)) (blkOk_by (own := [("_law_text_here", 2)]) (N := ["_law_box_here", "_law_turn", "_law_text_here", "_law_bent_here", "_law_one", "_law_some"]) (sc := defScope s_l_right) (by decide +kernel)) (fun _ _ _ _ _ => (pg_name (i := 2) sc_l_right.nd rfl (by first | exact Or.inl rfl | exact Or.inr rfl))) (fun _ _ _ _ _ => pts_nil) (fun _ _ _ _ _ => (pe_call (ok_l_found T) hr (by rfl) T.d_l_found.mg T.d_l_found.fn.kp T.d_l_found.b .nil pass0 (pa_cons (pv 2) pa_nil)))) (pe_lc (own := [("_law_text_here", 2)]) (g := gName 2) (tt := tYes) (by rfl) sc_l_right.nd (pi_listK (K := K) rfl (pv 5)) (blkOk_by (own := [("_law_text_here", 2)]) (N := ["_law_box_here", "_law_turn", "_law_text_here", "_law_bent_here", "_law_one", "_law_some"]) (sc := defScope s_l_right) (by decide +kernel)) (fun _ _ _ _ _ => (pg_name (i := 2) sc_l_right.nd rfl (by first | exact Or.inl rfl | exact Or.inr rfl))) (fun _ _ _ _ _ => pts_nil) (fun _ _ _ _ _ => (pe_call (ok_l_due T) (hr.mono (by decide)) (by rfl) T.d_l_due.mg T.d_l_due.fn.kp T.d_l_due.b .nil pass0 (pa_cons (pv 2) pa_nil)))) (nomark _)))))), ?_⟩
    refine ⟨12, rfl, by decide, by decide, for_range (lo := 0) (n := 12) (fun i σ H' => ∃ v1 v2 v3 v4 v5 : Option V, σ = [some (.ref p), v1, v2, v3, v4, v5] ∧ BoxAt H' p (40 * i) ∧ Fr p H H')
      ⟨none, none, none, none, none, rfl, hB, Fr.refl⟩ ?_ ?_⟩
    · rintro i σ H0 hi ⟨v1, v2, v3, v4, v5, rfl, B, F⟩
      refine ⟨_, rfl, p, true, 40 * i, rfl, B, by omega, fun a t b H1 lo ta tb h1 B1 F1 => ?_⟩
      refine ⟨a, t, b, rfl, SqT.of h1, ta, lo.pos, tb, ?_⟩
      have gx : Gd 82 (S (fracL t b)) := Gd.of (frac_len9 ta tb) (frac_codes t b)
      generalize S (fracL t b) = x at gx
      refine ⟨_, rfl, _, rfl, p, x, 40 * i + 5, 82, rfl, B1, by omega, gx, by decide, by decide, fun y H2 gy B2 F2 => ?_⟩
      refine ⟨fun σ' H' => ∃ y : Str, σ' = [some (.ref p), some (.int (0 + (i : Int))), some (.str x), some (.str y), v4, v5] ∧ Gd 940 y ∧ BoxAt H' p (40 * i + 20) ∧ Fr p H0 H', ?_, ?_⟩
      rotate_left
      · refine ⟨_, rfl, p, 3, 40 * i + 9, rfl, B2, by omega, by decide, by decide, fun z H3 z0 z1 B3 F3 => ?_⟩
        refine ⟨rfl, _, rfl, ite2 (fun c => ?_) (fun c => ⟨y, rfl, gy.up (by decide), B3.mono (by omega), F1.trans (F2.trans F3)⟩)⟩
        refine ⟨_, rfl, _, rfl, p, y, 40 * i + 10, 296, rfl, B3, by omega, gy, by decide, by decide, fun y2 H4 gy2 B4 F4 => ?_⟩
        exact ⟨y2, rfl, gy2.up (by decide), B4.mono (by omega), F1.trans (F2.trans (F3.trans F4))⟩
      rintro σ' H3 ⟨y, rfl, gy, B3, F3⟩
      have g1 : Gd 1 (S [10]) := Gd.one (by decide)
      have g2 : Gd 2 (S [10, 10]) := Gd.of (by decide) (by decide)
      refine ⟨_, rfl, _, rfl, _, rfl, _, _, rfl, rfl, Gd.two gx g1 (by decide), _, rfl, _, _, rfl, rfl, Gd.two gx g2 (by decide), _, rfl, _, _, rfl, rfl, Gd.two g1 gx (by decide), rfl, fun tp H4 s4 n4 h4 => ?_⟩
      refine ⟨tp, rfl, ⟨_, SqT.of h4⟩, for_tup (xs := [V.str y, V.str x, V.str (x ++ ("\n" : Str)), V.str (x ++ ("\n\n" : Str)), V.str (("\n" : Str) ++ x)]) (fun j σ H' => ∃ v4 : Option V, σ = [some (.ref p), some (.int (0 + (i : Int))), some (.str x), some (.str y), v4, v5] ∧ Same H4 H') ⟨_, rfl, .refl _⟩ ?_ ?_ ?_⟩
      · rintro j σ H' _ ⟨v4, _, sm⟩
        exact SqT.of (sm _ _ h4)
      · rintro j z σ H' hz ⟨v4, rfl, sm⟩
        have ez : ∃ u : Str, z = .str u ∧ Gd 1000 u := by
          match j, hz with
          | 0, hz => cases hz; exact ⟨_, rfl, gy.up (by decide)⟩
          | 1, hz => cases hz; exact ⟨_, rfl, gx.up (by decide)⟩
          | 2, hz => cases hz; exact ⟨_, rfl, (gx.app g1).up (by decide)⟩
          | 3, hz => cases hz; exact ⟨_, rfl, (gx.app g2).up (by decide)⟩
          | 4, hz => cases hz; exact ⟨_, rfl, (g1.app gx).up (by decide)⟩
          | j + 5, hz => simp at hz
        obtain ⟨u, rfl, gu⟩ := ez
        obtain ⟨l, rfl, hl, hc⟩ : ∃ l, u = S l ∧ l.length ≤ 1000 ∧ ∀ c ∈ l, c < 128 := ⟨TL.tl u, (S_tl u).symm, by rw [← TL.len_tl]; exact gu.len, gu.ok⟩
        refine ⟨_, rfl, l, rfl, hl, fun no H6 s6 => ?_, fun t b F p6 H6 s6 _ h6 => ?_⟩
        · refine ⟨_, rfl, l, rfl, hl, fun no2 H7 s7 => ?_, fun t' b' F2 p7 H7 s7 _ h7 => absurd F2 (no _ _)⟩
          have t6 : Told H6 l _ := .no no
          have t7 : Told H7 l _ := .no no2
          obtain ⟨d, e1, e2, e3, e4⟩ := told_alike (K := K) hc (t6.same s7) t7
          have sh : SeqAt.shaped d = true := by
            show (PyData.canLay0 d && decide (PyData.depth d ≤ 64)) = true
            rw [e3, decide_eq_true (by omega)] <;> rfl
          refine ⟨d, d, e1, e2, sh, sh, _, rfl, ?_⟩
          rw [SeqAt.eqv_refl _ (SeqAt.canLay_of_shaped sh)]
          exact iteF ⟨_, rfl, sm.trans (s6.trans s7)⟩
        · refine ⟨_, rfl, l, rfl, hl, fun no2 H7 s7 => absurd F (no2 _ _), fun t' b' F2 p7 H7 s7 _ h7 => ?_⟩
          have t6 : Told H6 l _ := .yes F h6
          have t7 : Told H7 l _ := .yes F2 h7
          obtain ⟨d, e1, e2, e3, e4⟩ := told_alike (K := K) hc (t6.same s7) t7
          have sh : SeqAt.shaped d = true := by
            show (PyData.canLay0 d && decide (PyData.depth d ≤ 64)) = true
            rw [e3, decide_eq_true (by omega)] <;> rfl
          refine ⟨d, d, e1, e2, sh, sh, _, rfl, ?_⟩
          rw [SeqAt.eqv_refl _ (SeqAt.canLay_of_shaped sh)]
          exact iteF ⟨_, rfl, sm.trans (s6.trans s7)⟩
      · rintro σ H' ⟨v4, rfl, sm⟩
        have sA := s4.trans sm
        exact ⟨_, _, _, _, _, rfl, (B3.same sA).mono (by omega), F.trans (F3.trans (.of sA))⟩
    · rintro σ H0 ⟨v1, v2, v3, v4, v5, rfl, B, F⟩
      refine ⟨("9" : Str), 40, rfl, rfl, by decide +kernel, by decide, ("9" : Str), 41, rfl, rfl, by decide +kernel, by decide, ("9" : Str), 40, rfl, rfl, by decide +kernel, by decide, _, _, rfl, rfl, small (by decide +kernel), ("7" : Str), 41, rfl, rfl, by decide +kernel, by decide, _, _, rfl, rfl, small (by decide +kernel), rfl, fun sl H1 s1 n1 h1 => ?_⟩
      obtain ⟨ts, ets, gts⟩ : ∃ ts : List Str, H1 sl = some (.lst (ts.map V.str)) ∧ ∀ y ∈ ts, y.length ≤ 1000 ∧ ∀ c ∈ TL.tl y, c < 128 :=
        ⟨[("" : Str), ("-" : Str), ("/" : Str), ("0/1" : Str), ("-0" : Str), ("1/1" : Str), ("2/4" : Str), Txt.mul ("9" : Str) 40, Txt.mul ("9" : Str) 41, ("-" : Str) ++ Txt.mul ("9" : Str) 40, ("1/" : Str) ++ Txt.mul ("7" : Str) 41, ("00" : Str), ("01/2" : Str)], h1, by decide +kernel⟩
      have lens : ts.length < 1000 := by
        rw [h1] at ets
        have e := congrArg (fun o : Option HO => match o with | some (.lst xs) => xs.length | _ => 0) ets
        have e2 : (13 : Nat) = (ts.map V.str).length := e
        rw [List.length_map] at e2
        omega
      have lss : ∀ l ∈ ts.map TL.tl, ∀ c ∈ l, c < 128 := fun l hl => by
        obtain ⟨y, hy, rfl⟩ := List.mem_map.mp hl
        exact (gts y hy).2
      -- one turn of a list of what is told
      have turn : ∀ (Hb : Hp) (D : Addr), Same H1 Hb → Hb D = none → ∀ (j : Nat) (z : V) (H' : Hp), (ts.map V.str)[j]? = some z → (∃ vs, Same Hb H' ∧ H' D = some (.lst vs) ∧ ToldAll H' ((ts.map TL.tl).take j) vs) →
          sp_l_due [z] H' (fun y H4 => ∃ acc, H4 D = some (.lst acc) ∧ acc.length < sizeLine ∧ ∃ vs, Same Hb (upd H4 D (.lst (acc ++ [y]))) ∧ (upd H4 D (.lst (acc ++ [y]))) D = some (.lst vs) ∧ ToldAll (upd H4 D (.lst (acc ++ [y]))) ((ts.map TL.tl).take (j + 1)) vs) E0 := by
        intro Hb D sb nD j z H' hz ⟨vs, sm, hD, tv⟩
        rw [List.getElem?_map] at hz
        cases e : ts[j]? with
        | none =>
          rw [e] at hz
          cases hz
        | some y =>
          rw [e] at hz
          obtain rfl : V.str y = z := Option.some.inj hz
          have gy := gts y (List.mem_of_getElem? e)
          have el : (ts.map TL.tl)[j]? = some (TL.tl y) := by rw [List.getElem?_map, e] <;> rfl
          rw [← S_tl y]
          refine told_of (by rw [← TL.len_tl]; exact gy.1) fun v H4 s4 t4 => ?_
          have hD4 := s4 _ _ hD
          refine ⟨vs, hD4, ?_, vs ++ [v], Same.put (sm.trans s4) nD, upd_same, ?_⟩
          · have k := told_len tv
            rw [List.length_take, List.length_map] at k
            exact small' (by omega)
          · rw [take_one el]
            exact ToldAll.mono (told_upd hD4) (ToldAll.snoc t4 (ToldAll.mono (fun l v h => h.same s4) tv))
      refine ⟨_, rfl, sl, rfl, ⟨_, SqL.of ets⟩, fun D1 hD1 => ?_⟩
      refine lc_list (K := K) (a := sl) (xs := ts.map V.str) (fun j H' => ∃ vs, Same H1 H' ∧ H' D1 = some (.lst vs) ∧ ToldAll H' ((ts.map TL.tl).take j) vs) ⟨[], same_new hD1, upd_same, trivial⟩ (fun j H' _ ⟨_, sm, _⟩ => SqL.of (sm _ _ ets)) (fun j z H' hz w => ?_) ?_
      · exact ⟨rfl, yesT ⟨_, rfl, turn H1 D1 (.refl _) hD1 j z H' hz w⟩⟩
      rintro H2 ⟨vs, s2, hv, tv⟩
      rw [List.length_map, ← List.length_map (f := TL.tl), List.take_length] at tv
      refine ⟨_, rfl, sl, rfl, ⟨_, SqL.of (s2 _ _ ets)⟩, fun D2 hD2 => ?_⟩
      refine lc_list (K := K) (a := sl) (xs := ts.map V.str) (fun j H' => ∃ vs, Same H2 H' ∧ H' D2 = some (.lst vs) ∧ ToldAll H' ((ts.map TL.tl).take j) vs) ⟨[], same_new hD2, upd_same, trivial⟩ (fun j H' _ ⟨_, sm, _⟩ => SqL.of (sm _ _ (s2 _ _ ets))) (fun j z H' hz w => ?_) ?_
      · exact ⟨rfl, yesT ⟨_, rfl, turn H2 D2 s2 hD2 j z H' hz w⟩⟩
      rintro H3 ⟨ws, s3, hw, tw⟩
      rw [List.length_map, ← List.length_map (f := TL.tl), List.take_length] at tw
      obtain ⟨ds, f1, f2, f3, f4⟩ := ToldAll.alike (K := K) lss (ToldAll.mono (fun l v h => h.same s3) tv) tw
      have sh : SeqAt.shaped (.list ds) = true := by
        show (PyData.canLayAll0 ds && decide (PyData.depthAll ds + 1 ≤ 64)) = true
        rw [f3, decide_eq_true (by omega)] <;> rfl
      refine ⟨.list ds, .list ds, .lst (SqL.of (s3 _ _ hv)) f1, .lst (SqL.of hw) f2, sh, sh, ?_⟩
      rw [SeqAt.eqv_refl _ (SeqAt.canLay_of_shaped sh)]
      exact q H3 (F.trans (.of (s1.trans (s2.trans s3))))

end
end KR
namespace KR
open PySem PySem.Spec PyProof.Rows L2
section
variable {P : Program} {w : World} {K : PySem.W.Frag} {mg : Str → Option Value} {base : Heap}
def sp_p_law (K : PySem.W.Frag) : Sp := fun vs H Q _ => ∃ (a : Addr) (ns : List Int), vs = [.ref a] ∧ SqL K H a (ns.map V.int) ∧ ns.length ≤ 63 ∧ ∀ H', Q (.bl true) H'
theorem ok_p_law (T : All K mg) : FnOk P w K mg base CX0 6 T.f_p_law T.fd_p_law ["_law_script"] (sp_p_law K) := by
  refine T.d_p_law.fn.ok sc_p_law (fun vs H Q E h => ?_) (fun cdv A outer s H vs Q E hr h => ?_)
  · obtain ⟨a, ns, rfl, _⟩ := h
    rfl
  · obtain ⟨a, ns, rfl, hS, hlen, q⟩ := h
    refine ⟨_, (pss_one (ps_ret (pe_callB (allK (K := K) rfl rfl) (by rfl) T.b_all (by decide +kernel) (pa_cons (pe_lc (own := [("_law_k", 1)]) (g := gName 1) (tt := tYes) (by rfl) sc_p_law.nd (pi_range1 (by rfl) T.b_range (pa_cons (pe_op op_add pe_int (pe_callB (call_min2 rfl) (by rfl) T.b_min (by decide +kernel) (pa_cons pe_int (pa_cons (pe_callB (lenQ (K := K) rfl) (by rfl) T.b_len PySem.boot_len (pa_cons (pv 0) pa_nil)) pa_nil)))) pa_nil)) (blkOk_by (own := [("_law_k", 1)]) (N := ["_law_script", "_law_k"]) (sc := defScope s_p_law) (by decide +kernel)) (fun _ _ _ _ _ => (pg_name (i := 1) sc_p_law.nd rfl (by first | exact Or.inl rfl | exact Or.inr rfl))) (fun _ _ _ _ _ => pts_nil) (fun _ _ _ _ _ => (pe_call (ok_l_right T) hr (by rfl) T.d_l_right.mg T.d_l_right.fn.kp T.d_l_right.b .nil pass0 (pa_cons (pe_call (ok_l_box T) (hr.mono (by decide)) (by rfl) T.d_l_box.mg T.d_l_box.fn.kp T.d_l_box.b .nil pass0 (pa_cons (pv 0) (pa_cons (pv 1) pa_nil))) pa_nil)))) pa_nil)))), ?_⟩
    refine ⟨_, rfl, a, _, rfl, .inl hS, _, _, rfl, _, _, rfl, rfl, _, rfl, ?_⟩
    rw [List.length_map]
    obtain ⟨m, em, m1, m2⟩ : ∃ m : Nat, (1 + (if (ns.length : Int) < 5 then (ns.length : Int) else 5)) = (m : Int) ∧ 1 ≤ m ∧ m ≤ 64 := by
      refine ⟨(1 + (if (ns.length : Int) < 5 then (ns.length : Int) else 5)).toNat, ?_, ?_, ?_⟩ <;> split <;> omega
    dsimp only
    rw [em]
    refine ⟨by omega, by omega, fun D hD => ?_⟩
    refine lc_range (lo := 0) (n := m) (fun i H' => Same H H' ∧ H' D = some (.lst (List.replicate i (.bl true)))) ⟨same_new hD, upd_same⟩ (fun i H1 hi z => ?_) (fun H1 z => ?_)
    · obtain ⟨sm, hd⟩ := z
      refine ⟨rfl, yesT ?_⟩
      refine ⟨_, rfl, _, rfl, a, ns, _, rfl, sm.seq hS, by omega, by omega, fun p H2 s2 n2 B2 => ?_⟩
      refine ⟨p, rfl, B2, fun H3 F3 => ?_⟩
      have hd2 := s2 _ _ hd
      have dp : D ≠ p := ne_of_none hd n2
      have s3 : Same H1 H3 := fun b o e => F3 b o (ne_of_none e n2) (s2 b o e)
      have hd3 := s3 _ _ hd
      refine ⟨_, hd3, by rw [List.length_replicate]; exact small' (by omega), Same.put (sm.trans s3) hD, ?_⟩
      rw [upd_same, List.replicate_succ'] <;> rfl
    · obtain ⟨sm, hd⟩ := z
      obtain ⟨t1, t2⟩ := all_true m
      refine ⟨D, List.replicate m true, rfl, SqL.of (by rw [t1]; exact hd), ?_⟩
      rw [t2]
      exact q H1

end
end KR
namespace KR
open PySem PySem.Spec PyProof.Rows L2
theorem all_mk {l : PySem.W.OpenLaw} {w : World} {K : PySem.W.Frag} {h : Heap} {mg : Str → Option Value} {fa : Addr} (X : K.In h) (G : h.Ns mainGlobals mg) (hfa : mg "law" = some (.ref fa))
    {od0 an0 : Option Addr} {sl0 : Array (Option Value)} {oc0 kV0 dc0 pm0 cd0 ct0 : Value} {f0 : Addr}
    (a0 : PySem.W.nsIn K mainGlobals "is_number" = some (some (.ref f0))) (l0 : K.lookup f0 = some ⟨oc0, od0, .func (PySem.W.fnOf "is_number" "is_number" (defArgs s_p_is_number) (defBody s_p_is_number) (defScope s_p_is_number) .none kV0 dc0 pm0 an0 cd0 ct0), sl0⟩) (c0 : PySem.W.codeIn K cd0 "is_number" = true) (k0 : PySem.W.keepIn K (.ref f0) = true)
    {od1 an1 : Option Addr} {sl1 : Array (Option Value)} {oc1 kV1 dc1 pm1 cd1 ct1 : Value} {f1 : Addr}
    (a1 : PySem.W.nsIn K mainGlobals "figures_of" = some (some (.ref f1))) (l1 : K.lookup f1 = some ⟨oc1, od1, .func (PySem.W.fnOf "figures_of" "figures_of" (defArgs s_p_figures_of) (defBody s_p_figures_of) (defScope s_p_figures_of) .none kV1 dc1 pm1 an1 cd1 ct1), sl1⟩) (c1 : PySem.W.codeIn K cd1 "figures_of" = true) (k1 : PySem.W.keepIn K (.ref f1) = true)
    {od2 an2 : Option Addr} {sl2 : Array (Option Value)} {oc2 kV2 dc2 pm2 cd2 ct2 : Value} {f2 : Addr}
    (a2 : PySem.W.nsIn K mainGlobals "are_figures" = some (some (.ref f2))) (l2 : K.lookup f2 = some ⟨oc2, od2, .func (PySem.W.fnOf "are_figures" "are_figures" (defArgs s_p_are_figures) (defBody s_p_are_figures) (defScope s_p_are_figures) .none kV2 dc2 pm2 an2 cd2 ct2), sl2⟩) (c2 : PySem.W.codeIn K cd2 "are_figures" = true) (k2 : PySem.W.keepIn K (.ref f2) = true)
    {od3 an3 : Option Addr} {sl3 : Array (Option Value)} {oc3 kV3 dc3 pm3 cd3 ct3 : Value} {f3 : Addr}
    (a3 : PySem.W.nsIn K mainGlobals "is_frac" = some (some (.ref f3))) (l3 : K.lookup f3 = some ⟨oc3, od3, .func (PySem.W.fnOf "is_frac" "is_frac" (defArgs s_p_is_frac) (defBody s_p_is_frac) (defScope s_p_is_frac) .none kV3 dc3 pm3 an3 cd3 ct3), sl3⟩) (c3 : PySem.W.codeIn K cd3 "is_frac" = true) (k3 : PySem.W.keepIn K (.ref f3) = true)
    {od4 an4 : Option Addr} {sl4 : Array (Option Value)} {oc4 kV4 dc4 pm4 cd4 ct4 : Value} {f4 : Addr}
    (a4 : PySem.W.nsIn K mainGlobals "frac_text" = some (some (.ref f4))) (l4 : K.lookup f4 = some ⟨oc4, od4, .func (PySem.W.fnOf "frac_text" "frac_text" (defArgs s_p_frac_text) (defBody s_p_frac_text) (defScope s_p_frac_text) .none kV4 dc4 pm4 an4 cd4 ct4), sl4⟩) (c4 : PySem.W.codeIn K cd4 "frac_text" = true) (k4 : PySem.W.keepIn K (.ref f4) = true)
    {od5 an5 : Option Addr} {sl5 : Array (Option Value)} {oc5 kV5 dc5 pm5 cd5 ct5 : Value} {f5 : Addr}
    (a5 : PySem.W.nsIn K mainGlobals "frac_in" = some (some (.ref f5))) (l5 : K.lookup f5 = some ⟨oc5, od5, .func (PySem.W.fnOf "frac_in" "frac_in" (defArgs s_p_frac_in) (defBody s_p_frac_in) (defScope s_p_frac_in) .none kV5 dc5 pm5 an5 cd5 ct5), sl5⟩) (c5 : PySem.W.codeIn K cd5 "frac_in" = true) (k5 : PySem.W.keepIn K (.ref f5) = true)
    {od6 an6 : Option Addr} {sl6 : Array (Option Value)} {oc6 kV6 dc6 pm6 cd6 ct6 : Value} {f6 : Addr}
    (a6 : PySem.W.nsIn K mainGlobals "_read" = some (some (.ref f6))) (l6 : K.lookup f6 = some ⟨oc6, od6, .func (PySem.W.fnOf "_read" "_read" (defArgs s_p__read) (defBody s_p__read) (defScope s_p__read) .none kV6 dc6 pm6 an6 cd6 ct6), sl6⟩) (c6 : PySem.W.codeIn K cd6 "_read" = true) (k6 : PySem.W.keepIn K (.ref f6) = true)
    {od7 an7 : Option Addr} {sl7 : Array (Option Value)} {oc7 kV7 dc7 pm7 cd7 ct7 : Value} {f7 : Addr}
    (a7 : PySem.W.nsIn K mainGlobals "_law_cell_at" = some (some (.ref f7))) (l7 : K.lookup f7 = some ⟨oc7, od7, .func (PySem.W.fnOf "_law_cell_at" "_law_cell_at" (defArgs s_l_cell_at) (defBody s_l_cell_at) (defScope s_l_cell_at) .none kV7 dc7 pm7 an7 cd7 ct7), sl7⟩) (c7 : PySem.W.codeIn K cd7 "_law_cell_at" = true) (k7 : PySem.W.keepIn K (.ref f7) = true)
    {od8 an8 : Option Addr} {sl8 : Array (Option Value)} {oc8 kV8 dc8 pm8 cd8 ct8 : Value} {f8 : Addr}
    (a8 : PySem.W.nsIn K mainGlobals "_law_box" = some (some (.ref f8))) (l8 : K.lookup f8 = some ⟨oc8, od8, .func (PySem.W.fnOf "_law_box" "_law_box" (defArgs s_l_box) (defBody s_l_box) (defScope s_l_box) .none kV8 dc8 pm8 an8 cd8 ct8), sl8⟩) (c8 : PySem.W.codeIn K cd8 "_law_box" = true) (k8 : PySem.W.keepIn K (.ref f8) = true)
    {od9 an9 : Option Addr} {sl9 : Array (Option Value)} {oc9 kV9 dc9 pm9 cd9 ct9 : Value} {f9 : Addr}
    (a9 : PySem.W.nsIn K mainGlobals "_law_take" = some (some (.ref f9))) (l9 : K.lookup f9 = some ⟨oc9, od9, .func (PySem.W.fnOf "_law_take" "_law_take" (defArgs s_l_take) (defBody s_l_take) (defScope s_l_take) .none kV9 dc9 pm9 an9 cd9 ct9), sl9⟩) (c9 : PySem.W.codeIn K cd9 "_law_take" = true) (k9 : PySem.W.keepIn K (.ref f9) = true)
    {od10 an10 : Option Addr} {sl10 : Array (Option Value)} {oc10 kV10 dc10 pm10 cd10 ct10 : Value} {f10 : Addr}
    (a10 : PySem.W.nsIn K mainGlobals "_law_low" = some (some (.ref f10))) (l10 : K.lookup f10 = some ⟨oc10, od10, .func (PySem.W.fnOf "_law_low" "_law_low" (defArgs s_l_low) (defBody s_l_low) (defScope s_l_low) .none kV10 dc10 pm10 an10 cd10 ct10), sl10⟩) (c10 : PySem.W.codeIn K cd10 "_law_low" = true) (k10 : PySem.W.keepIn K (.ref f10) = true)
    {od11 an11 : Option Addr} {sl11 : Array (Option Value)} {oc11 kV11 dc11 pm11 cd11 ct11 : Value} {f11 : Addr}
    (a11 : PySem.W.nsIn K mainGlobals "_law_frac" = some (some (.ref f11))) (l11 : K.lookup f11 = some ⟨oc11, od11, .func (PySem.W.fnOf "_law_frac" "_law_frac" (defArgs s_l_frac) (defBody s_l_frac) (defScope s_l_frac) .none kV11 dc11 pm11 an11 cd11 ct11), sl11⟩) (c11 : PySem.W.codeIn K cd11 "_law_frac" = true) (k11 : PySem.W.keepIn K (.ref f11) = true)
    {od12 an12 : Option Addr} {sl12 : Array (Option Value)} {oc12 kV12 dc12 pm12 cd12 ct12 : Value} {f12 : Addr}
    (a12 : PySem.W.nsIn K mainGlobals "_law_number" = some (some (.ref f12))) (l12 : K.lookup f12 = some ⟨oc12, od12, .func (PySem.W.fnOf "_law_number" "_law_number" (defArgs s_l_number) (defBody s_l_number) (defScope s_l_number) .none kV12 dc12 pm12 an12 cd12 ct12), sl12⟩) (c12 : PySem.W.codeIn K cd12 "_law_number" = true) (k12 : PySem.W.keepIn K (.ref f12) = true)
    {od13 an13 : Option Addr} {sl13 : Array (Option Value)} {oc13 kV13 dc13 pm13 cd13 ct13 : Value} {f13 : Addr}
    (a13 : PySem.W.nsIn K mainGlobals "_law_read" = some (some (.ref f13))) (l13 : K.lookup f13 = some ⟨oc13, od13, .func (PySem.W.fnOf "_law_read" "_law_read" (defArgs s_l_read) (defBody s_l_read) (defScope s_l_read) .none kV13 dc13 pm13 an13 cd13 ct13), sl13⟩) (c13 : PySem.W.codeIn K cd13 "_law_read" = true) (k13 : PySem.W.keepIn K (.ref f13) = true)
    {od14 an14 : Option Addr} {sl14 : Array (Option Value)} {oc14 kV14 dc14 pm14 cd14 ct14 : Value} {f14 : Addr}
    (a14 : PySem.W.nsIn K mainGlobals "_law_sign" = some (some (.ref f14))) (l14 : K.lookup f14 = some ⟨oc14, od14, .func (PySem.W.fnOf "_law_sign" "_law_sign" (defArgs s_l_sign) (defBody s_l_sign) (defScope s_l_sign) .none kV14 dc14 pm14 an14 cd14 ct14), sl14⟩) (c14 : PySem.W.codeIn K cd14 "_law_sign" = true) (k14 : PySem.W.keepIn K (.ref f14) = true)
    {od15 an15 : Option Addr} {sl15 : Array (Option Value)} {oc15 kV15 dc15 pm15 cd15 ct15 : Value} {f15 : Addr}
    (a15 : PySem.W.nsIn K mainGlobals "_law_bent" = some (some (.ref f15))) (l15 : K.lookup f15 = some ⟨oc15, od15, .func (PySem.W.fnOf "_law_bent" "_law_bent" (defArgs s_l_bent) (defBody s_l_bent) (defScope s_l_bent) .none kV15 dc15 pm15 an15 cd15 ct15), sl15⟩) (c15 : PySem.W.codeIn K cd15 "_law_bent" = true) (k15 : PySem.W.keepIn K (.ref f15) = true)
    {od16 an16 : Option Addr} {sl16 : Array (Option Value)} {oc16 kV16 dc16 pm16 cd16 ct16 : Value} {f16 : Addr}
    (a16 : PySem.W.nsIn K mainGlobals "_law_found" = some (some (.ref f16))) (l16 : K.lookup f16 = some ⟨oc16, od16, .func (PySem.W.fnOf "_law_found" "_law_found" (defArgs s_l_found) (defBody s_l_found) (defScope s_l_found) .none kV16 dc16 pm16 an16 cd16 ct16), sl16⟩) (c16 : PySem.W.codeIn K cd16 "_law_found" = true) (k16 : PySem.W.keepIn K (.ref f16) = true)
    {od17 an17 : Option Addr} {sl17 : Array (Option Value)} {oc17 kV17 dc17 pm17 cd17 ct17 : Value} {f17 : Addr}
    (a17 : PySem.W.nsIn K mainGlobals "_law_due" = some (some (.ref f17))) (l17 : K.lookup f17 = some ⟨oc17, od17, .func (PySem.W.fnOf "_law_due" "_law_due" (defArgs s_l_due) (defBody s_l_due) (defScope s_l_due) .none kV17 dc17 pm17 an17 cd17 ct17), sl17⟩) (c17 : PySem.W.codeIn K cd17 "_law_due" = true) (k17 : PySem.W.keepIn K (.ref f17) = true)
    {od18 an18 : Option Addr} {sl18 : Array (Option Value)} {oc18 kV18 dc18 pm18 cd18 ct18 : Value} {f18 : Addr}
    (a18 : PySem.W.nsIn K mainGlobals "_law_text" = some (some (.ref f18))) (l18 : K.lookup f18 = some ⟨oc18, od18, .func (PySem.W.fnOf "_law_text" "_law_text" (defArgs s_l_text) (defBody s_l_text) (defScope s_l_text) .none kV18 dc18 pm18 an18 cd18 ct18), sl18⟩) (c18 : PySem.W.codeIn K cd18 "_law_text" = true) (k18 : PySem.W.keepIn K (.ref f18) = true)
    {od19 an19 : Option Addr} {sl19 : Array (Option Value)} {oc19 kV19 dc19 pm19 cd19 ct19 : Value} {f19 : Addr}
    (a19 : PySem.W.nsIn K mainGlobals "_law_right" = some (some (.ref f19))) (l19 : K.lookup f19 = some ⟨oc19, od19, .func (PySem.W.fnOf "_law_right" "_law_right" (defArgs s_l_right) (defBody s_l_right) (defScope s_l_right) .none kV19 dc19 pm19 an19 cd19 ct19), sl19⟩) (c19 : PySem.W.codeIn K cd19 "_law_right" = true) (k19 : PySem.W.keepIn K (.ref f19) = true)
    {od20 an20 : Option Addr} {sl20 : Array (Option Value)} {oc20 kV20 dc20 pm20 cd20 ct20 : Value} {f20 : Addr}
    (a20 : PySem.W.nsIn K mainGlobals "law" = some (some (.ref f20))) (l20 : K.lookup f20 = some ⟨oc20, od20, .func (PySem.W.fnOf "law" "law" (defArgs s_p_law) (defBody s_p_law) (defScope s_p_law) .none kV20 dc20 pm20 an20 cd20 ct20), sl20⟩) (c20 : PySem.W.codeIn K cd20 "law" = true) (k20 : PySem.W.keepIn K (.ref f20) = true)
    (z_ValueError : PySem.W.nsIn K mainGlobals "ValueError" = some none)
    (z_abs : PySem.W.nsIn K mainGlobals "abs" = some none)
    (z_all : PySem.W.nsIn K mainGlobals "all" = some none)
    (z_bool : PySem.W.nsIn K mainGlobals "bool" = some none)
    (z_int : PySem.W.nsIn K mainGlobals "int" = some none)
    (z_isinstance : PySem.W.nsIn K mainGlobals "isinstance" = some none)
    (z_len : PySem.W.nsIn K mainGlobals "len" = some none)
    (z_min : PySem.W.nsIn K mainGlobals "min" = some none)
    (z_range : PySem.W.nsIn K mainGlobals "range" = some none)
    (z_reversed : PySem.W.nsIn K mainGlobals "reversed" = some none)
    (z_str : PySem.W.nsIn K mainGlobals "str" = some none)
    (z_tuple : PySem.W.nsIn K mainGlobals "tuple" = some none)
    (z_gcd : PySem.W.nsIn K mainGlobals "gcd" = some (some (.builtin "math.gcd")))
    {t_CHUNK : Tok} (z_CHUNK : PySem.W.nsIn K mainGlobals "CHUNK" = some (some (.int 10000000000000000000000000000000000000000000000000000000000000000 t_CHUNK)))
    {t_MOST_FIGURES : Tok} (z_MOST_FIGURES : PySem.W.nsIn K mainGlobals "MOST_FIGURES" = some (some (.int 40 t_MOST_FIGURES)))
    {C_BoilError : Addr} (y_BoilError : PySem.W.nsIn K mainGlobals "BoilError" = some (some (.ref C_BoilError)))
    {C_BadFrac : Addr} (y_BadFrac : PySem.W.nsIn K mainGlobals "BadFrac" = some (some (.ref C_BadFrac)))
    {C_BadDeed : Addr} (y_BadDeed : PySem.W.nsIn K mainGlobals "BadDeed" = some (some (.ref C_BadDeed)))
    {C_BadRow : Addr} (y_BadRow : PySem.W.nsIn K mainGlobals "BadRow" = some (some (.ref C_BadRow)))
    {C_NoHour : Addr} (y_NoHour : PySem.W.nsIn K mainGlobals "NoHour" = some (some (.ref C_NoHour)))
    {C_NoShare : Addr} (y_NoShare : PySem.W.nsIn K mainGlobals "NoShare" = some (some (.ref C_NoShare)))
    {nm_BadFrac q_BadFrac : Str} {N_BadFrac fI_BadFrac : Addr} {bs_BadFrac : List Value} {sn_BadFrac : List Str} {sub_BadFrac : List Value} {ab_BadFrac : Bool} {col_BadFrac : Option Bool} {dd_BadFrac odI_BadFrac anI_BadFrac : Option Addr} {t2_BadFrac : Tok} {m0_BadFrac m1_BadFrac m3_BadFrac m5_BadFrac : Option Value} {ocI_BadFrac kVI_BadFrac dcI_BadFrac pmI_BadFrac cdI_BadFrac ctI_BadFrac : Value} {slI_BadFrac : Array (Option Value)}
    (xL_BadFrac : K.lookup C_BadFrac = some (excClassObj nm_BadFrac q_BadFrac C_BadFrac N_BadFrac bs_BadFrac [.ref C_BoilError, .type "ValueError", .type "Exception", .type "BaseException", .type "object"] true sn_BadFrac sub_BadFrac ab_BadFrac col_BadFrac dd_BadFrac m0_BadFrac m1_BadFrac (some (.str "BadFrac" t2_BadFrac)) m3_BadFrac m5_BadFrac "ValueError.__new__"))
    (xsa_BadFrac : PySem.W.findIn K (.ref C_BadFrac) "__setattr__" = some (some (.builtin "object.__setattr__")))
    (xex_BadFrac : PySem.W.subIn K (.ref C_BadFrac) (.type "BaseException") = some true)
    (xty_BadFrac : PySem.W.typeIn K (.ref C_BadFrac) = some (.type "type"))
    (xk_BadFrac : PySem.W.keepIn K (.ref C_BadFrac) = true)
    (xi_BadFrac : PySem.W.findIn K (.ref C_BadFrac) "__init__" = some (some (.ref fI_BadFrac)))
    (xti_BadFrac : PySem.W.typeIn K (.ref fI_BadFrac) = some (.type "function"))
    (xl_BadFrac : K.lookup fI_BadFrac = some ⟨ocI_BadFrac, odI_BadFrac, .func (PySem.W.fnOf "__init__" "BadFrac.__init__" (defArgs s_init_BadFrac) (defBody s_init_BadFrac) (defScope s_init_BadFrac) .none kVI_BadFrac dcI_BadFrac pmI_BadFrac anI_BadFrac cdI_BadFrac ctI_BadFrac), slI_BadFrac⟩)
    (xc_BadFrac : PySem.W.codeIn K cdI_BadFrac "BadFrac.__init__" = true)
    (xki_BadFrac : PySem.W.keepIn K (.ref fI_BadFrac) = true)
    (ecl_BadFrac : PySem.W.isClsIn K C_BadFrac = true)
    (ega_BadFrac : PySem.W.findIn K (.ref C_BadFrac) "__getattribute__" = some (some (.builtin "BaseException.__getattribute__")))
    (egg_BadFrac : PySem.W.findIn K (.ref C_BadFrac) "__getattr__" = some none)
    (ecs_BadFrac : PySem.W.findIn K (.ref C_BadFrac) "__class__" = some (some (.builtin "object.__class__")))
    (ege_BadFrac : PySem.W.specialIn K (.builtin "object.__class__") "__get__" = some (some (.builtin "getset_descriptor.__get__")))
    (etk_BadFrac : PySem.W.takesIn K (.builtin "object.__class__") = some true)
    (eob_BadFrac : PySem.W.mroIn K C_BadFrac (.type "object") = some true)
    (edi_BadFrac : PySem.W.hasDictIn K C_BadFrac = true)
    (efw_BadFrac : PySem.W.findIn K (.ref C_BadFrac) "word" = some none)
    (ern_BadFrac : PySem.W.readsIn K C_BadFrac (.type "type") = true)
    (efc_BadFrac : PySem.W.findCls K (.ref C_BadFrac) (.type "type") "__name__" = some (.get (.builtin "getset_descriptor.__get__") (.builtin "type.__name__") (.ref C_BadFrac) (.type "type")))
    (efl_BadFrac : PySem.W.findIn K (.ref C_BadFrac) "what" = some none)
    (ic_BoilError : PySem.W.isClsIn K C_BoilError = true)
    (ic_BadDeed : PySem.W.isClsIn K C_BadDeed = true)
    (ic_BadRow : PySem.W.isClsIn K C_BadRow = true)
    (ic_NoHour : PySem.W.isClsIn K C_NoHour = true)
    (ic_NoShare : PySem.W.isClsIn K C_NoShare = true)
    (it_BoilError : PySem.W.typeIn K (.ref C_BoilError) = some (.type "type"))
    (it_BadDeed : PySem.W.typeIn K (.ref C_BadDeed) = some (.type "type"))
    (it_BadRow : PySem.W.typeIn K (.ref C_BadRow) = some (.type "type"))
    (it_NoHour : PySem.W.typeIn K (.ref C_NoHour) = some (.type "type"))
    (it_NoShare : PySem.W.typeIn K (.ref C_NoShare) = some (.type "type"))
    (is_BoilError : PySem.W.subIn K (.ref C_BadFrac) (.ref C_BoilError) = some true)
    (is_BadDeed : PySem.W.subIn K (.ref C_BadFrac) (.ref C_BadDeed) = some false)
    (is_BadRow : PySem.W.subIn K (.ref C_BadFrac) (.ref C_BadRow) = some false)
    (is_NoHour : PySem.W.subIn K (.ref C_BadFrac) (.ref C_NoHour) = some false)
    (is_NoShare : PySem.W.subIn K (.ref C_BadFrac) (.ref C_NoShare) = some false)
    (is_BadFrac : PySem.W.subIn K (.ref C_BadFrac) (.ref C_BadFrac) = some true)
    (ibx : PySem.W.subIn K (.ref C_BoilError) (.type "BaseException") = some true)
    (ive : PySem.W.subIn K (.ref C_BadFrac) (.type "ValueError") = some true)
    : ∃ fd : FuncData, (∀ (s : Shared) (v : Value), BindsTo s fd ⟨[v], []⟩ [("_law_script", v)]) ∧ ∀ base : Heap, K.In base → base.Ns mainGlobals mg → FnOk l.prog w K mg base CX0 6 fa fd ["_law_script"] (sp_p_law K) := by
  have e := hfa.symm.trans (PySem.W.mg_of X G a20)
  cases e
  have F0 := fun_mk (st := s_p_is_number) l0 c0 k0
  have F1 := fun_mk (st := s_p_figures_of) l1 c1 k1
  have F2 := fun_mk (st := s_p_are_figures) l2 c2 k2
  have F3 := fun_mk (st := s_p_is_frac) l3 c3 k3
  have F4 := fun_mk (st := s_p_frac_text) l4 c4 k4
  have F5 := fun_mk (st := s_p_frac_in) l5 c5 k5
  have F6 := fun_mk (st := s_p__read) l6 c6 k6
  have F7 := fun_mk (st := s_l_cell_at) l7 c7 k7
  have F8 := fun_mk (st := s_l_box) l8 c8 k8
  have F9 := fun_mk (st := s_l_take) l9 c9 k9
  have F10 := fun_mk (st := s_l_low) l10 c10 k10
  have F11 := fun_mk (st := s_l_frac) l11 c11 k11
  have F12 := fun_mk (st := s_l_number) l12 c12 k12
  have F13 := fun_mk (st := s_l_read) l13 c13 k13
  have F14 := fun_mk (st := s_l_sign) l14 c14 k14
  have F15 := fun_mk (st := s_l_bent) l15 c15 k15
  have F16 := fun_mk (st := s_l_found) l16 c16 k16
  have F17 := fun_mk (st := s_l_due) l17 c17 k17
  have F18 := fun_mk (st := s_l_text) l18 c18 k18
  have F19 := fun_mk (st := s_l_right) l19 c19 k19
  have F20 := fun_mk (st := s_p_law) l20 c20 k20
  have FI_BadFrac := fun_mk (st := s_init_BadFrac) xl_BadFrac xc_BadFrac xki_BadFrac
  let T : All K mg := ⟨_, _, ⟨F0, PySem.W.mg_of X G a0, F0.binds (ps := ["thing"]) fun _ _ _ _ _ _ us hl => match us, hl with | [_], _ => rfl⟩, _, _, ⟨F1, PySem.W.mg_of X G a1, F1.binds (ps := ["number"]) fun _ _ _ _ _ _ us hl => match us, hl with | [_], _ => rfl⟩, _, _, ⟨F2, PySem.W.mg_of X G a2, F2.binds (ps := ["text", "most"]) fun _ _ _ _ _ _ us hl => match us, hl with | [_, _], _ => rfl⟩, _, _, ⟨F3, PySem.W.mg_of X G a3, F3.binds (ps := ["thing"]) fun _ _ _ _ _ _ us hl => match us, hl with | [_], _ => rfl⟩, _, _, ⟨F4, PySem.W.mg_of X G a4, F4.binds (ps := ["one"]) fun _ _ _ _ _ _ us hl => match us, hl with | [_], _ => rfl⟩, _, _, ⟨F5, PySem.W.mg_of X G a5, F5.binds (ps := ["text"]) fun _ _ _ _ _ _ us hl => match us, hl with | [_], _ => rfl⟩, _, _, ⟨F6, PySem.W.mg_of X G a6, F6.binds (ps := ["text"]) fun _ _ _ _ _ _ us hl => match us, hl with | [_], _ => rfl⟩, _, _, ⟨F7, PySem.W.mg_of X G a7, F7.binds (ps := ["_law_script", "_law_k"]) fun _ _ _ _ _ _ us hl => match us, hl with | [_, _], _ => rfl⟩, _, _, ⟨F8, PySem.W.mg_of X G a8, F8.binds (ps := ["_law_script", "_law_k"]) fun _ _ _ _ _ _ us hl => match us, hl with | [_, _], _ => rfl⟩, _, _, ⟨F9, PySem.W.mg_of X G a9, F9.binds (ps := ["_law_box_here", "_law_many"]) fun _ _ _ _ _ _ us hl => match us, hl with | [_, _], _ => rfl⟩, _, _, ⟨F10, PySem.W.mg_of X G a10, F10.binds (ps := ["_law_top", "_law_bottom"]) fun _ _ _ _ _ _ us hl => match us, hl with | [_, _], _ => rfl⟩, _, _, ⟨F11, PySem.W.mg_of X G a11, F11.binds (ps := ["_law_box_here", "_law_below"]) fun _ _ _ _ _ _ us hl => match us, hl with | [_, _], _ => rfl⟩, _, _, ⟨F12, PySem.W.mg_of X G a12, F12.binds (ps := ["_law_word"]) fun _ _ _ _ _ _ us hl => match us, hl with | [_], _ => rfl⟩, _, _, ⟨F13, PySem.W.mg_of X G a13, F13.binds (ps := ["_law_text_here"]) fun _ _ _ _ _ _ us hl => match us, hl with | [_], _ => rfl⟩, _, _, ⟨F14, PySem.W.mg_of X G a14, F14.binds (ps := ["_law_box_here"]) fun _ _ _ _ _ _ us hl => match us, hl with | [_], _ => rfl⟩, _, _, ⟨F15, PySem.W.mg_of X G a15, F15.binds (ps := ["_law_box_here", "_law_text_here"]) fun _ _ _ _ _ _ us hl => match us, hl with | [_, _], _ => rfl⟩, _, _, ⟨F16, PySem.W.mg_of X G a16, F16.binds (ps := ["_law_text_here"]) fun _ _ _ _ _ _ us hl => match us, hl with | [_], _ => rfl⟩, _, _, ⟨F17, PySem.W.mg_of X G a17, F17.binds (ps := ["_law_text_here"]) fun _ _ _ _ _ _ us hl => match us, hl with | [_], _ => rfl⟩, _, _, ⟨F18, PySem.W.mg_of X G a18, F18.binds (ps := ["_law_one"]) fun _ _ _ _ _ _ us hl => match us, hl with | [_], _ => rfl⟩, _, _, ⟨F19, PySem.W.mg_of X G a19, F19.binds (ps := ["_law_box_here"]) fun _ _ _ _ _ _ us hl => match us, hl with | [_], _ => rfl⟩, _, _, ⟨F20, PySem.W.mg_of X G a20, F20.binds (ps := ["_law_script"]) fun _ _ _ _ _ _ us hl => match us, hl with | [_], _ => rfl⟩, PySem.W.mg_none_of X G z_ValueError, PySem.W.mg_none_of X G z_abs, PySem.W.mg_none_of X G z_all, PySem.W.mg_none_of X G z_bool, PySem.W.mg_none_of X G z_int, PySem.W.mg_none_of X G z_isinstance, PySem.W.mg_none_of X G z_len, PySem.W.mg_none_of X G z_min, PySem.W.mg_none_of X G z_range, PySem.W.mg_none_of X G z_reversed, PySem.W.mg_none_of X G z_str, PySem.W.mg_none_of X G z_tuple, PySem.W.mg_of X G z_gcd, _, PySem.W.mg_of X G z_CHUNK, _, PySem.W.mg_of X G z_MOST_FIGURES, _, PySem.W.mg_of X G y_BoilError, _, PySem.W.mg_of X G y_BadFrac, _, PySem.W.mg_of X G y_BadDeed, _, PySem.W.mg_of X G y_BadRow, _, PySem.W.mg_of X G y_NoHour, _, PySem.W.mg_of X G y_NoShare, ⟨⟨_, _, _, _, _, _, _, _, _, _, _, _, _, _, _, xL_BadFrac, rfl⟩, xsa_BadFrac, xex_BadFrac, xty_BadFrac, xk_BadFrac⟩, _, _, xi_BadFrac, xti_BadFrac, FI_BadFrac, FI_BadFrac.binds (ps := ["self", "what"]) fun _ _ _ _ _ _ us hl => match us, hl with | [_, _], _ => rfl, ⟨ecl_BadFrac, ega_BadFrac, egg_BadFrac, xex_BadFrac, ecs_BadFrac, ege_BadFrac, etk_BadFrac, eob_BadFrac, edi_BadFrac, efl_BadFrac⟩, ⟨⟨_, t2_BadFrac, xL_BadFrac, rfl, rfl⟩, ern_BadFrac, efw_BadFrac, efc_BadFrac⟩, exm_own ibx ic_BoilError it_BoilError is_BoilError, kitAny_cons (kit_own ic_BadDeed it_BadDeed is_BadDeed is_BadFrac) (fun _ => kitAny_cons (kit_own ic_BadRow it_BadRow is_BadRow is_BadFrac) (fun _ => kitAny_cons (kit_own ic_NoHour it_NoHour is_NoHour is_BadFrac) (fun _ => kitAny_cons (kit_own ic_NoShare it_NoShare is_NoShare is_BadFrac) (fun _ => rfl) (fun z => nomatch z)) (fun z => nomatch z)) (fun z => nomatch z)) (fun z => nomatch z), kit_ve ive, kit_own ecl_BadFrac xty_BadFrac is_BadFrac is_BadFrac⟩
  exact ⟨T.fd_p_law, fun s v => .of_eq rfl, fun base _ _ => ok_p_law T⟩
end KR
open PySem PySem.W PyProof.Rows
set_option maxRecDepth 100000 in
set_option maxHeartbeats 0 in
theorem PySem.Challenge.cw_kettlerow_k05_texts_of_fractions_spoilt_holds : PySem.Challenge.rw_kettlerow_k05_texts_of_fractions_spoilt.Holds := by
  w_on; o_law; k_head; (case hw => w_witness2)
  k_fill
  refine L2.walk_of (l := PySem.Challenge.rw_kettlerow_k05_texts_of_fractions_spoilt) (n := 63) (k := 6) (x := "_law_script") (CX := fun _ => L2.CX0) (sp := fun w => KR.sp_p_law _) rfl (by decide) rfl ⟨rfl, by decide, by decide⟩ (fun w h Y => PySem.W.kIn_of Y) ?F (fun _ _ a ns hl _ hS => ⟨a, ns, rfl, hS, hl, fun _ => rfl⟩) (fun _ _ _ _ _ h => h)
  case F =>
    intro w mg fa h KX G hmg
    refine' KR.all_mk KX G hmg ?a0 ?l0 ?c0 ?k0 ?a1 ?l1 ?c1 ?k1 ?a2 ?l2 ?c2 ?k2 ?a3 ?l3 ?c3 ?k3 ?a4 ?l4 ?c4 ?k4 ?a5 ?l5 ?c5 ?k5 ?a6 ?l6 ?c6 ?k6 ?a7 ?l7 ?c7 ?k7 ?a8 ?l8 ?c8 ?k8 ?a9 ?l9 ?c9 ?k9 ?a10 ?l10 ?c10 ?k10 ?a11 ?l11 ?c11 ?k11 ?a12 ?l12 ?c12 ?k12 ?a13 ?l13 ?c13 ?k13 ?a14 ?l14 ?c14 ?k14 ?a15 ?l15 ?c15 ?k15 ?a16 ?l16 ?c16 ?k16 ?a17 ?l17 ?c17 ?k17 ?a18 ?l18 ?c18 ?k18 ?a19 ?l19 ?c19 ?k19 ?a20 ?l20 ?c20 ?k20 ?z_ValueError ?z_abs ?z_all ?z_bool ?z_int ?z_isinstance ?z_len ?z_min ?z_range ?z_reversed ?z_str ?z_tuple ?z_gcd ?z_CHUNK ?z_MOST_FIGURES ?y_BoilError ?y_BadFrac ?y_BadDeed ?y_BadRow ?y_NoHour ?y_NoShare ?xL_BadFrac ?xsa_BadFrac ?xex_BadFrac ?xty_BadFrac ?xk_BadFrac ?xi_BadFrac ?xti_BadFrac ?xl_BadFrac ?xc_BadFrac ?xki_BadFrac ?ecl_BadFrac ?ega_BadFrac ?egg_BadFrac ?ecs_BadFrac ?ege_BadFrac ?etk_BadFrac ?eob_BadFrac ?edi_BadFrac ?efw_BadFrac ?ern_BadFrac ?efc_BadFrac ?efl_BadFrac ?ic_BoilError ?ic_BadDeed ?ic_BadRow ?ic_NoHour ?ic_NoShare ?it_BoilError ?it_BadDeed ?it_BadRow ?it_NoHour ?it_NoShare ?is_BoilError ?is_BadDeed ?is_BadRow ?is_NoHour ?is_NoShare ?is_BadFrac ?ibx ?ive
    (case a0 => k_is)
    (case l0 => k_is)
    (case c0 => k_is)
    (case k0 => k_is)
    (case a1 => k_is)
    (case l1 => k_is)
    (case c1 => k_is)
    (case k1 => k_is)
    (case a2 => k_is)
    (case l2 => k_is)
    (case c2 => k_is)
    (case k2 => k_is)
    (case a3 => k_is)
    (case l3 => k_is)
    (case c3 => k_is)
    (case k3 => k_is)
    (case a4 => k_is)
    (case l4 => k_is)
    (case c4 => k_is)
    (case k4 => k_is)
    (case a5 => k_is)
    (case l5 => k_is)
    (case c5 => k_is)
    (case k5 => k_is)
    (case a6 => k_is)
    (case l6 => k_is)
    (case c6 => k_is)
    (case k6 => k_is)
    (case a7 => k_is)
    (case l7 => k_is)
    (case c7 => k_is)
    (case k7 => k_is)
    (case a8 => k_is)
    (case l8 => k_is)
    (case c8 => k_is)
    (case k8 => k_is)
    (case a9 => k_is)
    (case l9 => k_is)
    (case c9 => k_is)
    (case k9 => k_is)
    (case a10 => k_is)
    (case l10 => k_is)
    (case c10 => k_is)
    (case k10 => k_is)
    (case a11 => k_is)
    (case l11 => k_is)
    (case c11 => k_is)
    (case k11 => k_is)
    (case a12 => k_is)
    (case l12 => k_is)
    (case c12 => k_is)
    (case k12 => k_is)
    (case a13 => k_is)
    (case l13 => k_is)
    (case c13 => k_is)
    (case k13 => k_is)
    (case a14 => k_is)
    (case l14 => k_is)
    (case c14 => k_is)
    (case k14 => k_is)
    (case a15 => k_is)
    (case l15 => k_is)
    (case c15 => k_is)
    (case k15 => k_is)
    (case a16 => k_is)
    (case l16 => k_is)
    (case c16 => k_is)
    (case k16 => k_is)
    (case a17 => k_is)
    (case l17 => k_is)
    (case c17 => k_is)
    (case k17 => k_is)
    (case a18 => k_is)
    (case l18 => k_is)
    (case c18 => k_is)
    (case k18 => k_is)
    (case a19 => k_is)
    (case l19 => k_is)
    (case c19 => k_is)
    (case k19 => k_is)
    (case a20 => k_is)
    (case l20 => k_is)
    (case c20 => k_is)
    (case k20 => k_is)
    (case z_ValueError => k_is)
    (case z_abs => k_is)
    (case z_all => k_is)
    (case z_bool => k_is)
    (case z_int => k_is)
    (case z_isinstance => k_is)
    (case z_len => k_is)
    (case z_min => k_is)
    (case z_range => k_is)
    (case z_reversed => k_is)
    (case z_str => k_is)
    (case z_tuple => k_is)
    (case z_gcd => k_is)
    (case z_CHUNK => k_is)
    (case z_MOST_FIGURES => k_is)
    (case y_BoilError => k_is)
    (case y_BadFrac => k_is)
    (case y_BadDeed => k_is)
    (case y_BadRow => k_is)
    (case y_NoHour => k_is)
    (case y_NoShare => k_is)
    (case xL_BadFrac => k_is)
    (case xsa_BadFrac => k_is)
    (case xex_BadFrac => k_is)
    (case xty_BadFrac => k_is)
    (case xk_BadFrac => k_is)
    (case xi_BadFrac => k_is)
    (case xti_BadFrac => k_is)
    (case xl_BadFrac => k_is)
    (case xc_BadFrac => k_is)
    (case xki_BadFrac => k_is)
    (case ecl_BadFrac => k_is)
    (case ega_BadFrac => k_is)
    (case egg_BadFrac => k_is)
    (case ecs_BadFrac => k_is)
    (case ege_BadFrac => k_is)
    (case etk_BadFrac => k_is)
    (case eob_BadFrac => k_is)
    (case edi_BadFrac => k_is)
    (case efw_BadFrac => k_is)
    (case ern_BadFrac => k_is)
    (case efc_BadFrac => k_is)
    (case efl_BadFrac => k_is)
    (case ic_BoilError => k_is)
    (case ic_BadDeed => k_is)
    (case ic_BadRow => k_is)
    (case ic_NoHour => k_is)
    (case ic_NoShare => k_is)
    (case it_BoilError => k_is)
    (case it_BadDeed => k_is)
    (case it_BadRow => k_is)
    (case it_NoHour => k_is)
    (case it_NoShare => k_is)
    (case is_BoilError => k_is)
    (case is_BadDeed => k_is)
    (case is_BadRow => k_is)
    (case is_NoHour => k_is)
    (case is_NoShare => k_is)
    (case is_BadFrac => k_is)
    (case ibx => k_is)
    (case ive => k_is)
#print axioms PySem.Challenge.cw_kettlerow_k05_texts_of_fractions_spoilt_holds
