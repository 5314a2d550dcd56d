import PyProof.Rows.All
import Wide.All
import OpenK.AllK
import Wide.FinOn
import HandS.ForMost
import HandS.Gcd
import HandS.Wide
import HandS.IsInst
import HandS.Zip
import HandS.More
import HandS.Style
import HandS.Rev
import HandS.MapJoin
import HandS.StrMore
import HandS.Small
import PyProof.Rows.RegFStrParts
import HandS.TupMul
import HandS.Dict
import HandS.TryOnly
import HandS.Codes
import HandS.WideBits
import KE.KExcIs
import HandS.ExcInit
import HandS.ExcField
import HandS.ExcIs
import HandS.WordsExc
import HandS.ExcOwn
import KE.KTypeName
import OpenK.KCls
import PySem.Challenge.RW_kettlerow_k11_refusals_made_by_hand
set_option Elab.async false
set_option linter.all false
set_option maxRecDepth 100000
set_option maxHeartbeats 4000000
/-! ### own rules and words, of no law -/
namespace KR
open PySem PySem.Spec PyProof.Rows L2

/-- * of any two ints whose product is told to fit -/
theorem op_mulX {X : Cx} : OpR X (binaryOp .Mult) (rI IntMulOk fun i j => .int (i * j)) := opI fun _ _ _ _ _ _ _ hc q => mul_int q hc
/-- // by any divisor but 0, to some three thousand figures -/
def DivOk (_ j : Int) : Prop := j ≠ 0 ∧ j.natAbs.log2 < 9000
theorem op_fdivX {X : Cx} : OpR X (binaryOp .FloorDiv) (rI DivOk fun i j => .int (i.fdiv j)) := opI fun _ _ _ _ _ _ _ hc q => floordiv_int hc.1 q (.inl (PyProof.noPylong_of_log2 hc.2))
theorem mulL {i j : Int} (h : i.natAbs < 2 ^ 64) : IntMulOk i j := CMul.ok (.inl ⟨by omega, by omega⟩)
theorem mulR {i j : Int} (h : j.natAbs < 2 ^ 64) : IntMulOk i j := CMul.ok (.inr ⟨by omega, by omega⟩)
theorem mulW {i j : Int} {a b : Nat} (ha : i.natAbs < 2 ^ a) (hb : j.natAbs < 2 ^ b) (h0 : 0 < a) (h1 : 0 < b) (h : a + b ≤ 1000000) : IntMulOk i j := (wide_mul ha hb h0 h1 h).ok
theorem divOk {i j : Int} {b : Nat} (h : j ≠ 0) (hb : j.natAbs < 2 ^ b) (h0 : 0 < b) (h9 : b ≤ 9000) : DivOk i j := ⟨h, Nat.lt_of_lt_of_le (PySem.Flt.log2_lt_of h0 hb) h9⟩
theorem add_lt {i j : Int} {a : Nat} (ha : i.natAbs < 2 ^ a) (hb : j.natAbs < 2 ^ a) : (i + j).natAbs < 2 ^ (a + 1) := by
  rw [Nat.pow_succ]
  omega
theorem sub_lt {i j : Int} {a : Nat} (ha : i.natAbs < 2 ^ a) (hb : j.natAbs < 2 ^ a) : (i - j).natAbs < 2 ^ (a + 1) := by
  rw [Nat.pow_succ]
  omega
theorem lt_up {i : Int} {a b : Nat} (ha : i.natAbs < 2 ^ a) (h : a ≤ b) : i.natAbs < 2 ^ b := Nat.lt_of_lt_of_le ha (Nat.pow_le_pow_right (by decide) h)
theorem b40 {n : Nat} (h : n < 10 ^ 40) : n < 2 ^ 200 := Nat.lt_trans h (by decide)
theorem b41 {n : Nat} (h : n ≤ 10 ^ 41) : n < 2 ^ 200 := Nat.lt_of_le_of_lt h (by decide)
theorem bit_lt {c : Prop} [Decidable c] : (if c then (1 : Int) else 0).natAbs < 2 ^ 64 := by split <;> decide
theorem bit_nn {c : Prop} [Decidable c] : (0 : Int) ≤ (if c then (1 : Int) else 0) := by split <;> decide
theorem bit_or {c : Prop} [Decidable c] : (if c then (1 : Int) else 0) = 0 ∨ (if c then (1 : Int) else 0) = 1 := by split <;> simp
theorem small {n : Nat} (h : n ≤ 100000) : n ≤ sizeLine := Nat.le_trans h (by decide)
theorem small' {n : Nat} (h : n < 100000) : n < sizeLine := Nat.lt_of_lt_of_le h (by decide)

/-! the heap but for one object that is written -/
/-- all that was tracked but p is as it was -/
def Fr (p : Addr) (H H' : Hp) : Prop := ∀ b o, b ≠ p → H b = some o → H' b = some o
theorem Fr.refl {p : Addr} {H : Hp} : Fr p H H := fun _ _ _ h => h
theorem Fr.trans {p : Addr} {H H1 H2 : Hp} (a : Fr p H H1) (b : Fr p H1 H2) : Fr p H H2 := fun c o n h => b c o n (a c o n h)
theorem Fr.of {p : Addr} {H H1 : Hp} (a : Same H H1) : Fr p H H1 := fun c o _ h => a c o h
theorem same_new {H : Hp} {p : Addr} {o : HO} (h : H p = none) : Same H (upd H p o) := fun b x e => by
  rw [upd_ne (ne_of_none e h)]
  exact e
theorem Fr.new {p q : Addr} {H H1 : Hp} {o : HO} (a : Fr p H H1) (h : H1 q = none) : Fr p H (upd H1 q o) := a.trans (.of (same_new h))
theorem Fr.put {p : Addr} {H H1 : Hp} {o : HO} (a : Fr p H H1) : Fr p H (upd H1 p o) := fun c x n h => by
  rw [upd_ne n]
  exact a c x n h
theorem Fr.put' {p q : Addr} {H H1 : Hp} {o : HO} (a : Fr p H H1) (h : H q = none) : Fr p H (upd H1 q o) := fun c x n e => by
  rw [upd_ne (ne_of_none e h)]
  exact a c x n e
/-- what is new there was new ahead of it, if the written one stands -/
theorem Fr.free {p q : Addr} {H H1 : Hp} {o : HO} (a : Fr p H H1) (hp : H1 p = some o) (h : H1 q = none) : H q = none := by
  cases e : H q with
  | none => rfl
  | some u =>
    have n : q ≠ p := fun z => by
      rw [z, hp] at h
      cases h
    rw [a q u n e] at h
    cases h

/-! a reading may be asked for more than is wanted; displays whose new heap is a letter -/
def clA (t : TA) : TA := fun σ H Q => ∃ Q0 : List V → Hp → Prop, (∀ xs H1, Q0 xs H1 → Q xs H1) ∧ t σ H Q0
theorem pa_cl {X : Cx} {es : List Expr} {t : TA} (h : PA X es t) : PA X es (clA t) := ⟨fun pos pins s σ H Q I ⟨Q0, m, q⟩ =>
  thn (h.run pos pins s σ H Q0 I q) fun us s1 ⟨xs, H1, I1, r, z⟩ => ⟨xs, H1, I1, r, m _ _ z⟩⟩
def tTupI (t : TA) : TE := fun σ H Q => t σ H fun xs H1 => Nat.ble xs.length 100000 = true ∧ ∀ p H', Same H1 H' → H1 p = none → H' p = some (.tup xs) → Q (.ref p) H'
def tLstI (t : TA) : TE := fun σ H Q => t σ H fun xs H1 => Nat.ble xs.length 100000 = true ∧ ∀ p H', Same H1 H' → H1 p = none → H' p = some (.lst xs) → Q (.ref p) H'
theorem pe_tupI {X : Cx} {es : List Expr} {k : Nat} {pos : Pos} {t : TA} (h : PA X es t) : PE X (.Tuple es k pos) (tTupI t) := ⟨fun pins s σ H Q I q =>
  (pe_tup (pa_cl h)).run pins s σ H Q I ⟨_, fun _ _ ⟨z, w⟩ => ⟨small (Nat.le_of_ble_eq_true z), fun p hp => w p _ (same_new hp) hp upd_same⟩, q⟩⟩
theorem pe_lstI {X : Cx} {es : List Expr} {pos : Pos} {t : TA} (h : PA X es t) : PE X (.List es pos) (tLstI t) := ⟨fun pins s σ H Q I q =>
  (pe_lst (pa_cl h)).run pins s σ H Q I ⟨_, fun _ _ ⟨z, w⟩ => ⟨small (Nat.le_of_ble_eq_true z), fun p hp => w p _ (same_new hp) hp upd_same⟩, q⟩⟩
/-- ways that join behind a statement: R is what they come to -/
def tJ (t : TS) : TS := fun D σ H => ∃ R : L2.St → Hp → Prop, (∀ σ' H', R σ' H' → D.nx σ' H') ∧ t { D with nx := R } σ H
theorem ps_J {X : Cx} {st : Stmt} {t : TS} (h : PS X st t) : PS X st (tJ t) := ⟨fun pins s σ H D I ⟨R, m, q⟩ => thn (h.run pins s σ H { D with nx := R } I q) fun f s1 z =>
  match f, z with
  | .next, ⟨σ', H', J, r⟩ => ⟨σ', H', J, m _ _ r⟩
  | .ret _, z => z
  | .brk, z => z
  | .cont, z => z⟩
theorem ite_bT {b : Bool} {A B : Prop} (h : b = true) (q : A) : if b = true then A else B := by
  rw [if_pos h]
  exact q
theorem ite_bF {b : Bool} {A B : Prop} (h : b = false) (q : B) : if b = true then A else B := by
  rw [if_neg (by rw [h]; exact Bool.false_ne_true)]
  exact q
theorem ite_iT {i j : Int} {A B : Prop} (h : i = j) (q : A) : if decide (V.int i = V.int j) = true then A else B := by
  rw [if_pos (decide_eq_true (congrArg V.int h))]
  exact q
theorem ite_iF {i j : Int} {A B : Prop} (h : i ≠ j) (q : B) : if decide (V.int i = V.int j) = true then A else B := by
  rw [if_neg (by rw [decide_eq_false fun z => h (V.int.inj z)]; exact Bool.false_ne_true)]
  exact q
theorem ite_nT {i j : Int} {A B : Prop} (h : i ≠ j) (q : A) : if (!decide (V.int i = V.int j)) = true then A else B := by
  rw [if_pos (by rw [decide_eq_false fun z => h (V.int.inj z)] <;> rfl)]
  exact q
theorem ite_nF {i j : Int} {A B : Prop} (h : i = j) (q : B) : if (!decide (V.int i = V.int j)) = true then A else B := by
  rw [if_neg (by rw [decide_eq_true (congrArg V.int h)]; exact Bool.false_ne_true)]
  exact q
/-- the law's box of draws: n is more than have been mixed -/
def BoxAt (H : Hp) (p : Addr) (n : Nat) : Prop := ∃ a b c : Int, H p = some (.lst [.int a, .int b, .int c]) ∧ 0 ≤ a ∧ 0 ≤ b ∧ b < 2 ^ 62 ∧ 0 ≤ c ∧ c ≤ (n : Int)
theorem BoxAt.mono {H : Hp} {p : Addr} {n m : Nat} (h : BoxAt H p n) (le : n ≤ m) : BoxAt H p m := by
  obtain ⟨a, b, c, h1, h2, h3, h4, h5, h6⟩ := h
  exact ⟨a, b, c, h1, h2, h3, h4, h5, by omega⟩
theorem BoxAt.same {H H' : Hp} {p : Addr} {n : Nat} (h : BoxAt H p n) (s : Same H H') : BoxAt H' p n := by
  obtain ⟨a, b, c, h1, h2⟩ := h
  exact ⟨a, b, c, s _ _ h1, h2⟩
theorem BoxAt.ne {H : Hp} {p q : Addr} {n : Nat} {xs : List V} (h : BoxAt H p n) (t : H q = some (.tup xs)) : q ≠ p := by
  obtain ⟨a, b, c, h1, _⟩ := h
  exact ne_of t h1 (by intro z; cases z)
theorem BoxAt.some {H : Hp} {p : Addr} {n : Nat} (h : BoxAt H p n) : ∃ o, H p = some o := by
  obtain ⟨a, b, c, h1, _⟩ := h
  exact ⟨_, h1⟩
/-- a tuple stays -/
theorem Fr.tup {p q : Addr} {H H1 : Hp} {n : Nat} {xs : List V} (a : Fr p H H1) (hb : BoxAt H p n) (t : H q = some (.tup xs)) : H1 q = some (.tup xs) := a q _ (hb.ne t) t
/-- a pair of ints -/
def PrAt (H : Hp) (q : Addr) (t b : Int) : Prop := H q = some (.tup [.int t, .int b])
theorem at0 {x : V} {xs : List V} : atI (x :: xs) 0 = some x := atI_nat (j := 0) rfl
theorem at1 {x y : V} {xs : List V} : atI (x :: y :: xs) 1 = some y := atI_nat (j := 1) rfl
theorem at2 {x y z : V} {xs : List V} : atI (x :: y :: z :: xs) 2 = some z := atI_nat (j := 2) rfl

/-! fractions -/
/-- the law's own lowest terms -/
def low (t b : Int) : Int × Int := (t / (Nat.gcd t.natAbs b.natAbs : Nat) * (if b < 0 then -1 else 1), (b.natAbs : Int) / (Nat.gcd t.natAbs b.natAbs : Nat))
structure IsLow (t b : Int) : Prop where
  pos : 0 < b
  cop : Nat.gcd t.natAbs b.natAbs = 1
theorem dvd_mul {a b : Int} (h : a ∣ b) : a * (b / a) = b := Int.mul_ediv_cancel' h
theorem low_facts (t b : Int) (hb : b ≠ 0) : IsLow (low t b).1 (low t b).2 ∧ t * (low t b).2 = (low t b).1 * b := by
  have hg : 0 < Nat.gcd t.natAbs b.natAbs := Nat.gcd_pos_of_pos_right _ (by omega)
  generalize e : Nat.gcd t.natAbs b.natAbs = g at hg
  have d1 : g ∣ t.natAbs := e ▸ Nat.gcd_dvd_left _ _
  have d2 : g ∣ b.natAbs := e ▸ Nat.gcd_dvd_right _ _
  obtain ⟨x, hx⟩ := d1
  obtain ⟨y, hy⟩ := d2
  have hc : Nat.gcd x y = 1 := by
    rw [hx, hy, Nat.gcd_mul_left] at e
    exact Nat.eq_of_mul_eq_mul_left hg (by rw [e, Nat.mul_one])
  have hy0 : 0 < y := by
    rcases Nat.eq_zero_or_pos y with z | z
    · rw [z, Nat.mul_zero] at hy
      omega
    · exact z
  have h2 : (low t b).2 = (y : Int) := by
    show (b.natAbs : Int) / (Nat.gcd t.natAbs b.natAbs : Nat) = (y : Int)
    rw [e, hy, Int.natCast_mul]
    exact Int.mul_ediv_cancel_left _ (by omega)
  have ht : t = (g : Int) * x ∨ t = -((g : Int) * x) := by
    have q : (t.natAbs : Int) = (g : Int) * x := by rw [hx, Int.natCast_mul]
    omega
  have hbb : (b.natAbs : Int) = (g : Int) * y := by rw [hy, Int.natCast_mul]
  have h1 : (low t b).1 = (t / (g : Int)) * (if b < 0 then -1 else 1) := by
    show t / (Nat.gcd t.natAbs b.natAbs : Nat) * (if b < 0 then -1 else 1) = _
    rw [e]
  have h3 : t / (g : Int) = x ∨ t / (g : Int) = -(x : Int) := by
    rcases ht with q | q
    · left
      rw [q]
      exact Int.mul_ediv_cancel_left _ (by omega)
    · right
      rw [q, ← Int.mul_neg]
      exact Int.mul_ediv_cancel_left _ (by omega)
  have h4 : (g : Int) * (t / (g : Int)) = t := dvd_mul (by
    rcases ht with q | q
    · exact ⟨x, q⟩
    · exact ⟨-x, by rw [q, Int.mul_neg]⟩)
  refine ⟨⟨by rw [h2]; omega, ?_⟩, ?_⟩
  · rw [h2, h1]
    have q : ((t / (g : Int)) * (if b < 0 then -1 else 1)).natAbs = x := by
      split <;> rcases h3 with z | z <;> rw [z] <;> omega
    rw [q]
    exact hc
  · rw [h2, h1]
    by_cases c : b < 0
    · rw [if_pos c]
      have q : b = -((g : Int) * y) := by omega
      grind
    · rw [if_neg c]
      have q : b = (g : Int) * y := by omega
      grind
theorem low_pos (t b : Int) (hb : b ≠ 0) : 0 < (low t b).2 := (low_facts t b hb).1.pos
/-- two fractions in lowest terms that are alike across are one -/
theorem isLow_uniq {x y u v : Int} (h : IsLow x y) (k : IsLow u v) (e : x * v = u * y) : x = u ∧ y = v := by
  have h1 := h.pos
  have k1 := k.pos
  have e1 : x.natAbs * v.natAbs = u.natAbs * y.natAbs := by rw [← Int.natAbs_mul, ← Int.natAbs_mul, e]
  have d1 : y.natAbs ∣ v.natAbs := (Nat.Coprime.symm h.cop).dvd_of_dvd_mul_left (by rw [e1]; exact Nat.dvd_mul_left _ _)
  have d2 : v.natAbs ∣ y.natAbs := (Nat.Coprime.symm k.cop).dvd_of_dvd_mul_left (by rw [← e1]; exact Nat.dvd_mul_left _ _)
  have e2 : y.natAbs = v.natAbs := Nat.dvd_antisymm d1 d2
  have e3 : y = v := by omega
  subst e3
  exact ⟨Int.eq_of_mul_eq_mul_right (by omega) e, rfl⟩
theorem low_eq {t b x y : Int} (hb : b ≠ 0) (h : IsLow x y) (e : t * y = x * b) : low t b = (x, y) := by
  obtain ⟨h1, h2⟩ := low_facts t b hb
  have q : (low t b).1 * y = x * (low t b).2 := by
    have z : b * ((low t b).1 * y) = b * (x * (low t b).2) := by grind
    exact Int.eq_of_mul_eq_mul_left hb z
  obtain ⟨a1, a2⟩ := isLow_uniq h1 h q
  exact Prod.ext a1 a2
theorem low_id {t b : Int} (h : IsLow t b) : low t b = (t, b) := low_eq (by have := h.pos; omega) h rfl
theorem low_le (t b : Int) : (low t b).1.natAbs ≤ t.natAbs ∧ (low t b).2.natAbs ≤ b.natAbs := by
  generalize e : Nat.gcd t.natAbs b.natAbs = g
  have h1 : (low t b).1 = (t / (g : Int)) * (if b < 0 then -1 else 1) := by
    show t / (Nat.gcd t.natAbs b.natAbs : Nat) * (if b < 0 then -1 else 1) = _
    rw [e]
  have h2 : (low t b).2 = (b.natAbs : Int) / (g : Int) := by
    show (b.natAbs : Int) / (Nat.gcd t.natAbs b.natAbs : Nat) = _
    rw [e]
  have d1 : (g : Int) ∣ t := e ▸ Int.ofNat_dvd_left.mpr (Nat.gcd_dvd_left _ _)
  constructor
  · rw [h1]
    have q : (t / (g : Int) * (if b < 0 then -1 else 1)).natAbs = (t / (g : Int)).natAbs := by
      split <;> omega
    rw [q]
    obtain ⟨z, rfl⟩ := d1
    by_cases c : (g : Int) = 0
    · rw [c, Int.zero_mul, Int.zero_ediv]
      omega
    · rw [Int.mul_ediv_cancel_left _ c, Int.natAbs_mul]
      exact Nat.le_mul_of_pos_left _ (by omega)
  · rw [h2, ← Int.natCast_ediv, Int.natAbs_natCast]
    exact Nat.div_le_self _ _
theorem low_lt {t b : Int} {n : Nat} (h1 : t.natAbs < 2 ^ n) (h2 : b.natAbs < 2 ^ n) : (low t b).1.natAbs < 2 ^ n ∧ (low t b).2.natAbs < 2 ^ n :=
  ⟨Nat.lt_of_le_of_lt (low_le t b).1 h1, Nat.lt_of_le_of_lt (low_le t b).2 h2⟩
/-- a fraction in lowest terms, of fewer than sixty figures -/
structure FrAt (H : Hp) (x : Addr) (a b : Int) : Prop where
  at_ : H x = some (.tup [.int a, .int b])
  low : IsLow a b
  ta : a.natAbs < 2 ^ 200
  tb : b.natAbs < 2 ^ 200
theorem FrAt.same {H H' : Hp} {x : Addr} {a b : Int} (h : FrAt H x a b) (s : Same H H') : FrAt H' x a b := ⟨s _ _ h.at_, h.low, h.ta, h.tb⟩
theorem FrAt.fr {H H' : Hp} {x p : Addr} {a b : Int} {n : Nat} (h : FrAt H x a b) (B : BoxAt H p n) (f : Fr p H H') : FrAt H' x a b := ⟨f.tup B h.at_, h.low, h.ta, h.tb⟩
/-- a new pair of two numbers' lowest terms -/
def sp_low : Sp := fun vs H Q _ => ∃ t b : Int, vs = [.int t, .int b] ∧ b ≠ 0 ∧ t.natAbs < 2 ^ 2000 ∧ b.natAbs < 2 ^ 2000 ∧ ∀ p H', Same H H' → H p = none → H' p = some (.tup [.int (low t b).1, .int (low t b).2]) → Q (.ref p) H'
/-- two pairs in, low of what f and g say of them out -/
def sp_two (K : PySem.W.Frag) (f g : Int → Int → Int → Int → Int) : Sp := fun vs H Q _ => ∃ (x y : Addr) (a b c d : Int), vs = [.ref x, .ref y] ∧ SqT K H x [.int a, .int b] ∧ SqT K H y [.int c, .int d] ∧ g a b c d ≠ 0 ∧ a.natAbs < 2 ^ 900 ∧ b.natAbs < 2 ^ 900 ∧ c.natAbs < 2 ^ 900 ∧ d.natAbs < 2 ^ 900 ∧
  ∀ p H', Same H H' → H p = none → H' p = some (.tup [.int (low (f a b c d) (g a b c d)).1, .int (low (f a b c d) (g a b c d)).2]) → Q (.ref p) H'
/-- by a divisor turned about -/
theorem fdiv_neg {t g : Int} (h : g ∣ t) : t.fdiv (-g) = t / g * -1 := by
  obtain ⟨z, rfl⟩ := h
  by_cases c : g = 0
  · subst c
    simp
  · rw [Int.mul_ediv_cancel_left _ c, show g * z = (-g) * (-z) by grind, Int.mul_fdiv_cancel_left _ (by omega)]
    omega

/-! data of the law's own making, n deep -/
theorem Same.put {H0 H : Hp} {D : Addr} {o : HO} (s : Same H0 H) (h : H0 D = none) : Same H0 (upd H D o) := fun b u e => by
  rw [upd_ne (ne_of_none e h)]
  exact s b u e
inductive Dt (H : Hp) : Nat → V → PyData → Prop
  | non (n : Nat) : Dt H (n + 1) .non .none
  | bl (n : Nat) (b : Bool) : Dt H (n + 1) (.bl b) (.bool b)
  | int (n : Nat) (i : Int) : Dt H (n + 1) (.int i) (.int i)
  | str (n : Nat) (x : Str) (ok : PyData.canLay0 (.str x) = true) : Dt H (n + 1) (.str x) (.str x)
  | lst {n : Nat} {a : Addr} {xs : List V} {ds : List PyData} : H a = some (.lst xs) → xs.length = ds.length → xs.length ≤ 100000 → (∀ (i : Nat) (x : V) (d : PyData), xs[i]? = some x → ds[i]? = some d → Dt H n x d) → Dt H (n + 1) (.ref a) (.list ds)
  | tup {n : Nat} {a : Addr} {xs : List V} {ds : List PyData} : H a = some (.tup xs) → xs.length = ds.length → xs.length ≤ 100000 → (∀ (i : Nat) (x : V) (d : PyData), xs[i]? = some x → ds[i]? = some d → Dt H n x d) → Dt H (n + 1) (.ref a) (.tuple ds)
theorem Dt.same {H H' : Hp} (s : Same H H') : ∀ {n : Nat} {v : V} {d : PyData}, Dt H n v d → Dt H' n v d := by
  intro n v d h
  induction h with
  | non n => exact .non n
  | bl n b => exact .bl n b
  | int n i => exact .int n i
  | str n x ok => exact .str n x ok
  | lst h1 h2 h3 _ ih => exact .lst (s _ _ h1) h2 h3 ih
  | tup h1 h2 h3 _ ih => exact .tup (s _ _ h1) h2 h3 ih
theorem Dt.up {H : Hp} {n m : Nat} {v : V} {d : PyData} (h : Dt H n v d) : n ≤ m → Dt H m v d := by
  intro le
  induction h generalizing m with
  | non n => obtain ⟨k, rfl⟩ : ∃ k, m = k + 1 := ⟨m - 1, by omega⟩; exact .non k
  | bl n b => obtain ⟨k, rfl⟩ : ∃ k, m = k + 1 := ⟨m - 1, by omega⟩; exact .bl k b
  | int n i => obtain ⟨k, rfl⟩ : ∃ k, m = k + 1 := ⟨m - 1, by omega⟩; exact .int k i
  | str n x ok => obtain ⟨k, rfl⟩ : ∃ k, m = k + 1 := ⟨m - 1, by omega⟩; exact .str k x ok
  | lst h1 h2 h3 _ ih => obtain ⟨k, rfl⟩ : ∃ k, m = k + 1 := ⟨m - 1, by omega⟩; exact .lst h1 h2 h3 fun i x d a b => ih i x d a b (by omega)
  | tup h1 h2 h3 _ ih => obtain ⟨k, rfl⟩ : ∃ k, m = k + 1 := ⟨m - 1, by omega⟩; exact .tup h1 h2 h3 fun i x d a b => ih i x d a b (by omega)
theorem Dt.tup2 {H : Hp} {n : Nat} {a : Addr} {x y : V} {d e : PyData} (h : H a = some (.tup [x, y])) (h1 : Dt H n x d) (h2 : Dt H n y e) : Dt H (n + 1) (.ref a) (.tuple [d, e]) :=
  .tup h rfl (by show 2 ≤ 100000; decide) fun i u v hu hv => match i, hu, hv with
    | 0, hu, hv => by cases hu; cases hv; exact h1
    | 1, hu, hv => by cases hu; cases hv; exact h2
    | i + 2, hu, _ => by simp at hu
theorem Dt.pair {H : Hp} {a : Addr} {t b : Int} (h : H a = some (.tup [.int t, .int b])) : Dt H 2 (.ref a) (.tuple [.int t, .int b]) := .tup2 h (.int 0 t) (.int 0 b)
theorem Dt.lst2 {H : Hp} {n : Nat} {a : Addr} {x y : V} {d e : PyData} (h : H a = some (.lst [x, y])) (h1 : Dt H n x d) (h2 : Dt H n y e) : Dt H (n + 1) (.ref a) (.list [d, e]) :=
  .lst h rfl (by show 2 ≤ 100000; decide) fun i u v hu hv => match i, hu, hv with
    | 0, hu, hv => by cases hu; cases hv; exact h1
    | 1, hu, hv => by cases hu; cases hv; exact h2
    | i + 2, hu, _ => by simp at hu
theorem Dt.lst3 {H : Hp} {n : Nat} {a : Addr} {x y z : V} {d e f : PyData} (h : H a = some (.lst [x, y, z])) (h1 : Dt H n x d) (h2 : Dt H n y e) (h3 : Dt H n z f) : Dt H (n + 1) (.ref a) (.list [d, e, f]) :=
  .lst h rfl (by show 3 ≤ 100000; decide) fun i u v hu hv => match i, hu, hv with
    | 0, hu, hv => by cases hu; cases hv; exact h1
    | 1, hu, hv => by cases hu; cases hv; exact h2
    | 2, hu, hv => by cases hu; cases hv; exact h3
    | i + 3, hu, _ => by simp at hu
/-- a comprehension over pairs: J hands out a new tuple of px i and py i at each of n turns, while St stands -/
theorem lc_pair {J : It} {n : Nat} {St : Hp → Prop} {px py : Nat → V} (hgo : ∀ i H, i < n → St H → J.go i H) (hst : ∀ H, St H → J.stop n H)
    (hy : ∀ i H v H', i < n → St H → J.yld i H v H' → ∃ T, v = .ref T ∧ H T = none ∧ H' = upd H T (.tup [px i, py i]))
    {g : TG} {tt : TT} {te : TE} {vs : List Nat} {σ : L2.St} {H1 : Hp} {D : Addr} {Qd : Hp → Prop} (Pv : Nat → Hp → Prop) (h0 : Pv 0 (upd H1 D (.lst []))) (hq : ∀ i H, i ≤ n → Pv i H → St H)
    (hs : ∀ i T H, i < n → Pv i H → H T = none → g (.ref T) (wipe σ vs) (upd H T (.tup [px i, py i])) fun σ2 H2 => wipe σ2 vs = wipe σ vs ∧ tt σ2 H2 fun b H3 =>
      if b = true then te σ2 H3 fun y H4 => ∃ acc, H4 D = some (.lst acc) ∧ acc.length < sizeLine ∧ Pv (i + 1) (upd H4 D (.lst (acc ++ [y]))) else Pv (i + 1) H3) (hd : ∀ H, Pv n H → Qd H) :
    ∃ W : Nat → Nat → Hp → Prop, (∃ m, W 0 m (upd H1 D (.lst []))) ∧ ∀ i m H, W i m H →
      (J.stop i H ∧ Qd H) ∨ (J.go i H ∧ ∃ Nx : Hp → Prop, (∀ H', Nx H' → ∃ m', m' < m ∧ W (i + 1) m' H') ∧ ∀ x H', J.yld i H x H' → g x (wipe σ vs) H' fun σ2 H2 => wipe σ2 vs = wipe σ vs ∧ tt σ2 H2 fun b H3 =>
        if b = true then te σ2 H3 fun y H4 => ∃ acc, H4 D = some (.lst acc) ∧ acc.length < sizeLine ∧ Nx (upd H4 D (.lst (acc ++ [y]))) else Nx H3) := by
  refine ⟨fun i m H => i + m = n ∧ Pv i H, ⟨n, by omega, h0⟩, fun i m H w => ?_⟩
  obtain ⟨e, p⟩ := w
  have q := hq i H (by omega) p
  rcases Nat.lt_or_ge i n with lt | ge
  · refine Or.inr ⟨hgo i H lt q, Pv (i + 1), fun H' p' => ⟨m - 1, by omega, by omega, p'⟩, fun x H' y => ?_⟩
    obtain ⟨T, rfl, nT, rfl⟩ := hy i H x H' lt q y
    exact hs i T H lt p nT
  · obtain rfl : i = n := by omega
    exact Or.inl ⟨hst H q, hd H p⟩
theorem zipL_go {K : PySem.W.Frag} {a b : Addr} {xs ys : List V} {n : Nat} (h1 : xs.length = n) (h2 : ys.length = n) {i : Nat} {H : Hp} (lt : i < n) (q : SqL K H a xs ∧ SqL K H b ys) : (Itz K a b).go i H :=
  ⟨xs, ys, _, _, q.1, q.2, List.getElem?_eq_getElem (by omega), List.getElem?_eq_getElem (by omega)⟩
theorem zipL_stop {K : PySem.W.Frag} {a b : Addr} {xs ys : List V} {n : Nat} (h1 : xs.length = n) {H : Hp} (q : SqL K H a xs ∧ SqL K H b ys) : (Itz K a b).stop n H := ⟨xs, ys, q.1, q.2, .inl (by omega)⟩
theorem zipL_yld {K : PySem.W.Frag} {a b : Addr} {xs ys : List V} {n : Nat} (h1 : xs.length = n) (h2 : ys.length = n) {i : Nat} {H H' : Hp} {v : V} (lt : i < n) (q : SqL K H a xs ∧ SqL K H b ys) (y : (Itz K a b).yld i H v H') :
    ∃ T, v = .ref T ∧ H T = none ∧ H' = upd H T (.tup [xs.getD i .non, ys.getD i .non]) := by
  obtain ⟨T, x, y, rfl, nT, rfl, f1, f2⟩ := y
  refine ⟨T, rfl, nT, ?_⟩
  rw [List.getD_eq_getElem?_getD, List.getD_eq_getElem?_getD, f1 _ q.1, f2 _ q.2] <;> rfl
theorem zipT_go {K : PySem.W.Frag} {a b : Addr} {xs ys : List V} {n : Nat} (h1 : xs.length = n) (h2 : ys.length = n) {i : Nat} {H : Hp} (lt : i < n) (q : SqT K H a xs ∧ SqT K H b ys) : (RZ.ItzT K a b).go i H :=
  ⟨xs, ys, _, _, q.1, q.2, List.getElem?_eq_getElem (by omega), List.getElem?_eq_getElem (by omega)⟩
theorem zipT_stop {K : PySem.W.Frag} {a b : Addr} {xs ys : List V} {n : Nat} (h1 : xs.length = n) {H : Hp} (q : SqT K H a xs ∧ SqT K H b ys) : (RZ.ItzT K a b).stop n H := ⟨xs, ys, q.1, q.2, .inl (by omega)⟩
theorem zipT_yld {K : PySem.W.Frag} {a b : Addr} {xs ys : List V} {n : Nat} (h1 : xs.length = n) (h2 : ys.length = n) {i : Nat} {H H' : Hp} {v : V} (lt : i < n) (q : SqT K H a xs ∧ SqT K H b ys) (y : (RZ.ItzT K a b).yld i H v H') :
    ∃ T, v = .ref T ∧ H T = none ∧ H' = upd H T (.tup [xs.getD i .non, ys.getD i .non]) := by
  obtain ⟨T, x, y, rfl, nT, rfl, f1, f2⟩ := y
  refine ⟨T, rfl, nT, ?_⟩
  rw [List.getD_eq_getElem?_getD, List.getD_eq_getElem?_getD, f1 _ q.1, f2 _ q.2] <;> rfl
theorem getD_of {xs : List V} {i : Nat} (h : i < xs.length) : xs[i]? = some (xs.getD i .non) := by
  rw [List.getD_eq_getElem?_getD, List.getElem?_eq_getElem h] <;> rfl
theorem yesT {σ : L2.St} {H : Hp} {A B : Hp → Prop} (h : A H) : tYes σ H fun b H3 => if b = true then A H3 else B H3 := iteT (A := A H) (B := B H) h
/-- True so often -/
theorem all_true (n : Nat) : (List.replicate n true).map V.bl = List.replicate n (V.bl true) ∧ (List.replicate n true).all id = true := by
  refine ⟨List.map_replicate, ?_⟩
  induction n with
  | zero => rfl
  | succ n ih => rw [List.replicate_succ, List.all_cons, ih] <;> rfl

/-- a def of the text, where it stands and how it is called -/
structure Def (K : PySem.W.Frag) (mg : Str → Option Value) (name : Str) (st : Stmt) (f : Addr) (fd : FuncData) (ps : List Str) : Prop where
  fn : Fun K name name st f fd
  mg : mg name = some (.ref f)
  b : Binds K fd ps []
/-! rules whose written part is a letter -/
section
variable {X : Cx} {K : PySem.W.Frag}
theorem ixL (h : X.K = K) : IxR X (rIxL K) := h ▸ ix_list
theorem ixT (h : X.K = K) : IxR X (rIxT K) := h ▸ ix_tup
theorem ixQ (h : X.K = K) : IxR X (rIx K) := h ▸ ix_seq
def rLenQ (K : PySem.W.Frag) : List V → Hp → VK → Prop := fun xs H Q => ∃ p ys, xs = [.ref p] ∧ (SqL K H p ys ∨ SqT K H p ys) ∧ Q (.int (ys.length : Nat)) H
theorem lenQ (h : X.K = K) : CallR X (.builtin "len") (rLenQ K) := h ▸ call_len_seq
def rLenA (K : PySem.W.Frag) : List V → Hp → VK → Prop := fun xs H Q => ∃ x n, xs = [x] ∧ LenV K x H n ∧ Q (.int (n : Nat)) H
theorem lenA (h : X.K = K) : CallR X (.builtin "len") (rLenA K) := h ▸ call_len
theorem isiK (h : X.K = K) : CallR X (.builtin "isinstance") (rIsi K) := h ▸ call_isi
theorem isiTK (h : X.K = K) : CallR X (.builtin "isinstance") (rIsiT K) := h ▸ call_isiT
theorem allK (h : X.K = K) (hc : X.calm = true) : CallR X (.builtin "all") (rAll K) := h ▸ cr_all hc
theorem anyK (h : X.K = K) (hc : X.calm = true) : CallR X (.builtin "any") (rAny K) := h ▸ cr_any hc
theorem sumK (h : X.K = K) (hc : X.calm = true) : CallR X (.builtin "sum") (rSum K) := h ▸ cr_sum hc
theorem eqDK (h : X.K = K) (hu : X.A.units + 64 < cLine) : OpR X (compareOp .Eq) (rEqD K) := h ▸ op_eqD hu
theorem neDK (h : X.K = K) (hu : X.A.units + 64 < cLine) : OpR X (compareOp .NotEq) (rNeD K) := h ▸ op_neD hu
theorem inQ (h : X.K = K) : OpR X (compareOp .In) (rIn K false) := h ▸ op_in_seq
theorem notInQ (h : X.K = K) : OpR X (compareOp .NotIn) (rIn K true) := h ▸ op_notIn_seq
theorem pi_listK {tg l : Expr} {tl : TE} (h : X.K = K) (hl : PE X l tl) : PI X tg l (iList K tl) := h ▸ pi_list hl
theorem pi_tupK {tg l : Expr} {tl : TE} (h : X.K = K) (hl : PE X l tl) : PI X tg l (iTup K tl) := h ▸ pi_tup hl
theorem pi_zipK {e e2 : Expr} {ta : TA} {p pos tpos : Pos} {elts : List Expr} {kk : Nat} (h : X.K = K) (hg : Gl X "zip") (hm : X.mg "zip" = none) (ha : PA X [e, e2] ta)
    (hs : starEach [e, e2] X.env = (false, eval e X.env) :: starEach [e2] X.env := by rfl) (hpl : (backTo pos (starEach [e2] X.env)).any (·.1) = false := by rfl) :
    PI X (.Tuple elts kk tpos) (.Call (.Name "zip" p) [e, e2] [] pos) (RZ.iZipA K ta) := h ▸ RZ.pi_zipA hg hm ha hs hpl
theorem pi_enumK {e : Expr} {ta : TA} {p pos tpos : Pos} {elts : List Expr} {kk : Nat} (h : X.K = K) (hg : Gl X "enumerate") (hm : X.mg "enumerate" = none) (ha : PA X [e] ta) (hs : starEach [e] X.env = [(false, eval e X.env)] := by rfl) :
    PI X (.Tuple elts kk tpos) (.Call (.Name "enumerate" p) [e] [] pos) (iEnum K ta) := h ▸ pi_enum hg hm ha hs
theorem pg_tupK {es : List Expr} {k : Nat} {pos : Pos} {t : TGs} {n : Nat} (h : X.K = K) (hc : X.calm = true) (ht : PGs X es t) (hn : (assignEach es X.env).length = n := by rfl) (hst : (assignEach es X.env).findIdx? (·.1) = none := by rfl) :
    PG X (.Tuple es k pos) (gTup K n t) := h ▸ pg_tup hc ht hn hst
/-- a new slice, a new list of what a thing holds -/
def rSlLI (K : PySem.W.Frag) : V → Option Int → Option Int → Hp → VK → Prop := fun x lo hi H Q => ∃ a xs, x = .ref a ∧ SqL K H a xs ∧ ∀ p H', Same H H' → H p = none → H' p = some (.lst (cutV xs lo hi)) → Q (.ref p) H'
theorem slL (h : X.K = K) : SlR X (rSlLI K) := fun pins s σ H x v vl vu lo hi sl Q I rx hs pl pu ⟨a, xs, e, q, k⟩ =>
  sl_list pins s σ H x v vl vu lo hi sl Q I rx hs pl pu ⟨a, xs, e, h ▸ q, fun p hp => k p _ (same_new hp) hp upd_same⟩
def rListI (K : PySem.W.Frag) : List V → Hp → VK → Prop := fun xs H Q => ∃ p ys, xs = [.ref p] ∧ (SqL K H p ys ∨ SqT K H p ys) ∧ ∀ l H', Same H H' → H l = none → H' l = some (.lst ys) → Q (.ref l) H'
theorem listI (h : X.K = K) : CallR X (.type "list") (rListI K) := fun pins s σ H xs us Q I r ⟨p, ys, e, q, k⟩ =>
  call_list_of pins s σ H xs us Q I r ⟨p, ys, e, h ▸ q, fun l hl => k l _ (same_new hl) hl upd_same⟩
end
/-! lists of fractions: addresses, tops, bottoms -/
abbrev Fq := Addr × Int × Int
def refs (l : List Fq) : List V := l.map fun z => V.ref z.1
def dat (z : Fq) : PyData := .tuple [.int z.2.1, .int z.2.2]
structure FqAt (H : Hp) (n : Nat) (z : Fq) : Prop where
  at_ : H z.1 = some (.tup [.int z.2.1, .int z.2.2])
  low : IsLow z.2.1 z.2.2
  ta : z.2.1.natAbs ≤ 10 ^ 41 + n
  tb : z.2.2.natAbs ≤ 10 ^ 41 + n
def FrL (H : Hp) (n : Nat) (l : List Fq) : Prop := ∀ z ∈ l, FqAt H n z
theorem FqAt.fr {H H' : Hp} {p : Addr} {n m k : Nat} {z : Fq} (h : FqAt H n z) (B : BoxAt H p m) (f : Fr p H H') (le : n ≤ k) : FqAt H' k z := ⟨f.tup B h.at_, h.low, by have := h.ta; omega, by have := h.tb; omega⟩
theorem FqAt.same {H H' : Hp} {n : Nat} {z : Fq} (h : FqAt H n z) (s : Same H H') : FqAt H' n z := ⟨s _ _ h.at_, h.low, h.ta, h.tb⟩
theorem FrL.fr {H H' : Hp} {p : Addr} {n m k : Nat} {l : List Fq} (h : FrL H n l) (B : BoxAt H p m) (f : Fr p H H') (le : n ≤ k) : FrL H' k l := fun z hz => (h z hz).fr B f le
theorem FrL.same {H H' : Hp} {n : Nat} {l : List Fq} (h : FrL H n l) (s : Same H H') : FrL H' n l := fun z hz => (h z hz).same s
theorem FqAt.wide {H : Hp} {n : Nat} {z : Fq} (h : FqAt H n z) (le : n ≤ 1000) : z.2.1.natAbs < 2 ^ 200 ∧ z.2.2.natAbs < 2 ^ 200 := by
  have h1 := h.ta
  have h2 := h.tb
  have e : 10 ^ 41 + 1000 < 2 ^ 200 := by decide
  omega
theorem refs_len (l : List Fq) : (refs l).length = l.length := List.length_map _
theorem refs_get {l : List Fq} {i : Nat} {z : Fq} (h : l[i]? = some z) : (refs l)[i]? = some (.ref z.1) := by
  unfold refs
  rw [List.getElem?_map, h] <;> rfl
theorem refs_of {l : List Fq} {i : Nat} {x : V} (h : (refs l)[i]? = some x) : ∃ z, l[i]? = some z ∧ x = .ref z.1 := by
  unfold refs at h
  rw [List.getElem?_map] at h
  cases e : l[i]? with
  | none =>
    rw [e] at h
    cases h
  | some z =>
    rw [e] at h
    exact ⟨z, rfl, (Option.some.inj h).symm⟩
theorem dp_pair {K : PySem.W.Frag} {H : Hp} {a : Addr} {t b : Int} (h : H a = some (.tup [.int t, .int b])) : Dp K H (.ref a) (.tuple [.int t, .int b]) := .tup (SqT.of h) (.cons (.int _) (.cons (.int _) .nil))
theorem FrL.dps {K : PySem.W.Frag} {H : Hp} {n : Nat} : ∀ {l : List Fq}, FrL H n l → DpAll K H (refs l) (l.map dat)
  | [], _ => .nil
  | z :: r, h => .cons (dp_pair (h z List.mem_cons_self).at_) (FrL.dps fun y hy => h y (List.mem_cons_of_mem _ hy))
theorem dats_lay (l : List Fq) : PyData.canLayAll0 (l.map dat) = true ∧ PyData.depthAll (l.map dat) ≤ 1 := by
  induction l with
  | nil => exact ⟨rfl, by decide⟩
  | cons z r ih =>
    refine ⟨?_, ?_⟩
    · show (PyData.canLay0 (dat z) && PyData.canLayAll0 (r.map dat)) = true
      rw [ih.1]
      rfl
    · show max (PyData.depth (dat z)) (PyData.depthAll (r.map dat)) ≤ 1
      have e : PyData.depth (dat z) = 1 := rfl
      omega
theorem dats_shaped (l : List Fq) : SeqAt.shaped (.list (l.map dat)) = true := by
  obtain ⟨h1, h2⟩ := dats_lay l
  show (PyData.canLayAll0 (l.map dat) && decide (PyData.depthAll (l.map dat) + 1 ≤ 64)) = true
  rw [h1, decide_eq_true (by omega)] <;> rfl
theorem dats_nil (l : List Fq) : PyData.eqv (.list (l.map dat)) (.list []) = l.isEmpty := by
  cases l <;> rfl
theorem eqv_pair {a b c d : Int} : PyData.eqv (.tuple [.int a, .int b]) (.tuple [.int c, .int d]) = decide (a = c ∧ b = d) := by
  show ((a == c) && ((b == d) && true)) = decide (a = c ∧ b = d)
  rw [Bool.and_true, Bool.decide_and]
  rfl
/-! data of any make beside the box p -/
inductive Da (p : Addr) (H : Hp) : Nat → V → PyData → Prop
  | non (n : Nat) : Da p H (n + 1) .non .none
  | bl (n : Nat) (b : Bool) : Da p H (n + 1) (.bl b) (.bool b)
  | int (n : Nat) (i : Int) : Da p H (n + 1) (.int i) (.int i)
  | str (n : Nat) (x : Str) : Da p H (n + 1) (.str x) (.str x)
  | lst {n : Nat} {a : Addr} {xs : List V} {ds : List PyData} : a ≠ p → H a = some (.lst xs) → xs.length = ds.length → xs.length ≤ 100000 → (∀ (i : Nat) (x : V) (d : PyData), xs[i]? = some x → ds[i]? = some d → Da p H n x d) → Da p H (n + 1) (.ref a) (.list ds)
  | tup {n : Nat} {a : Addr} {xs : List V} {ds : List PyData} : a ≠ p → H a = some (.tup xs) → xs.length = ds.length → xs.length ≤ 100000 → (∀ (i : Nat) (x : V) (d : PyData), xs[i]? = some x → ds[i]? = some d → Da p H n x d) → Da p H (n + 1) (.ref a) (.tuple ds)
theorem Da.fr {p : Addr} {H H' : Hp} (s : Fr p H H') : ∀ {n : Nat} {v : V} {d : PyData}, Da p H n v d → Da p H' n v d := by
  intro n v d h
  induction h with
  | non n => exact .non n
  | bl n b => exact .bl n b
  | int n i => exact .int n i
  | str n x => exact .str n x
  | lst h0 h1 h2 h3 _ ih => exact .lst h0 (s _ _ h0 h1) h2 h3 ih
  | tup h0 h1 h2 h3 _ ih => exact .tup h0 (s _ _ h0 h1) h2 h3 ih
theorem Da.up {p : Addr} {H : Hp} {n m : Nat} {v : V} {d : PyData} (h : Da p H n v d) : n ≤ m → Da p H m v d := by
  intro le
  induction h generalizing m with
  | non n => obtain ⟨k, rfl⟩ : ∃ k, m = k + 1 := ⟨m - 1, by omega⟩; exact .non k
  | bl n b => obtain ⟨k, rfl⟩ : ∃ k, m = k + 1 := ⟨m - 1, by omega⟩; exact .bl k b
  | int n i => obtain ⟨k, rfl⟩ : ∃ k, m = k + 1 := ⟨m - 1, by omega⟩; exact .int k i
  | str n x => obtain ⟨k, rfl⟩ : ∃ k, m = k + 1 := ⟨m - 1, by omega⟩; exact .str k x
  | lst h0 h1 h2 h3 _ ih => obtain ⟨k, rfl⟩ : ∃ k, m = k + 1 := ⟨m - 1, by omega⟩; exact .lst h0 h1 h2 h3 fun i x d a b => ih i x d a b (by omega)
  | tup h0 h1 h2 h3 _ ih => obtain ⟨k, rfl⟩ : ∃ k, m = k + 1 := ⟨m - 1, by omega⟩; exact .tup h0 h1 h2 h3 fun i x d a b => ih i x d a b (by omega)
/-- each of a row is such data -/
def AllDa (p : Addr) (H : Hp) (n : Nat) (xs : List V) : Prop := ∀ x ∈ xs, ∃ d, Da p H n x d
theorem AllDa.fr {p : Addr} {H H' : Hp} {n : Nat} {xs : List V} (h : AllDa p H n xs) (s : Fr p H H') : AllDa p H' n xs := fun x hx => (h x hx).elim fun d q => ⟨d, q.fr s⟩
theorem AllDa.up {p : Addr} {H : Hp} {n m : Nat} {xs : List V} (h : AllDa p H n xs) (le : n ≤ m) : AllDa p H m xs := fun x hx => (h x hx).elim fun d q => ⟨d, q.up le⟩
theorem AllDa.nil {p : Addr} {H : Hp} {n : Nat} : AllDa p H n [] := fun x hx => absurd hx List.not_mem_nil
theorem AllDa.cons {p : Addr} {H : Hp} {n : Nat} {x : V} {xs : List V} (h : ∃ d, Da p H n x d) (t : AllDa p H n xs) : AllDa p H n (x :: xs) := fun y hy => by
  rcases List.mem_cons.mp hy with e | e
  · rw [e]
    exact h
  · exact t y e
theorem AllDa.append {p : Addr} {H : Hp} {n : Nat} {xs ys : List V} (h : AllDa p H n xs) (t : AllDa p H n ys) : AllDa p H n (xs ++ ys) := fun y hy => by
  rcases List.mem_append.mp hy with e | e
  · exact h y e
  · exact t y e
/-- what the datas of a row are -/
theorem AllDa.pick {p : Addr} {H : Hp} {n : Nat} : ∀ {xs : List V}, AllDa p H n xs → ∃ ds : List PyData, xs.length = ds.length ∧ ∀ (i : Nat) (x : V) (d : PyData), xs[i]? = some x → ds[i]? = some d → Da p H n x d
  | [], _ => ⟨[], rfl, fun i x d h => by simp at h⟩
  | x :: xs, h => by
    obtain ⟨d, q⟩ := h x List.mem_cons_self
    obtain ⟨ds, e, r⟩ := AllDa.pick (xs := xs) fun y hy => h y (List.mem_cons_of_mem _ hy)
    refine ⟨d :: ds, by rw [List.length_cons, List.length_cons, e], fun i y c h1 h2 => ?_⟩
    match i, h1, h2 with
    | 0, h1, h2 => cases h1; cases h2; exact q
    | i + 1, h1, h2 => exact r i y c h1 h2
theorem AllDa.tup {p : Addr} {H : Hp} {n : Nat} {xs : List V} {a : Addr} (h : AllDa p H n xs) (ne : a ≠ p) (e : H a = some (.tup xs)) (z : Nat.ble xs.length 100000 = true := by rfl) : ∃ d, Da p H (n + 1) (.ref a) d := by
  obtain ⟨ds, l, r⟩ := h.pick
  exact ⟨_, .tup ne e l (Nat.le_of_ble_eq_true z) r⟩
theorem AllDa.lst {p : Addr} {H : Hp} {n : Nat} {xs : List V} {a : Addr} (h : AllDa p H n xs) (ne : a ≠ p) (e : H a = some (.lst xs)) (z : Nat.ble xs.length 100000 = true := by rfl) : ∃ d, Da p H (n + 1) (.ref a) d := by
  obtain ⟨ds, l, r⟩ := h.pick
  exact ⟨_, .lst ne e l (Nat.le_of_ble_eq_true z) r⟩
theorem daI {p : Addr} {H : Hp} {n : Nat} (i : Int) : ∃ d, Da p H (n + 1) (.int i) d := ⟨_, .int n i⟩
theorem daB {p : Addr} {H : Hp} {n : Nat} (b : Bool) : ∃ d, Da p H (n + 1) (.bl b) d := ⟨_, .bl n b⟩
theorem daS {p : Addr} {H : Hp} {n : Nat} (x : Str) : ∃ d, Da p H (n + 1) (.str x) d := ⟨_, .str n x⟩
theorem daN {p : Addr} {H : Hp} {n : Nat} : ∃ d, Da p H (n + 1) .non d := ⟨_, .non n⟩
theorem AllDa.one {p : Addr} {H : Hp} {n m : Nat} {x : V} (h : ∃ d, Da p H n x d) (le : n ≤ m) : AllDa p H m [x] := .cons (h.elim fun d q => ⟨d, q.up le⟩) .nil
theorem AllDa.two {p : Addr} {H : Hp} {n : Nat} {x y : V} (h : ∃ d, Da p H n x d) (k : ∃ d, Da p H n y d) : AllDa p H n [x, y] := .cons h (.cons k .nil)
theorem da_fr {p : Addr} {H H' : Hp} {n : Nat} {v : V} (h : ∃ d, Da p H n v d) (s : Fr p H H') : ∃ d, Da p H' n v d := h.elim fun d q => ⟨d, q.fr s⟩
theorem da_up {p : Addr} {H : Hp} {n m : Nat} {v : V} (h : ∃ d, Da p H n v d) (le : n ≤ m) : ∃ d, Da p H m v d := h.elim fun d q => ⟨d, q.up le⟩
theorem BoxAt.new {H : Hp} {p a : Addr} {n : Nat} (h : BoxAt H p n) (e : H a = none) : a ≠ p := by
  obtain ⟨o, ho⟩ := h.some
  exact (ne_of_none ho e).symm
/-- an item at a place that is there -/
theorem at_some {xs : List V} {z : Int} (h0 : 0 ≤ z) (h1 : z < (xs.length : Int)) : ∃ v, atI xs z = some v ∧ v ∈ xs := by
  have g : xs[z.toNat]? = some xs[z.toNat] := List.getElem?_eq_getElem (by omega)
  exact ⟨_, at_of (j := z.toNat) (by omega) g, List.getElem_mem _⟩
/-- which kinds of built-in classes a data is of -/
def isTupD : PyData → Bool
  | .tuple _ => true
  | _ => false
def isIntD : PyData → Bool
  | .int _ => true
  | .bool _ => true
  | _ => false
def isBoolD : PyData → Bool
  | .bool _ => true
  | _ => false
def isListD : PyData → Bool
  | .list _ => true
  | _ => false
def isStrD : PyData → Bool
  | .str _ => true
  | _ => false
structure Kinds (K : PySem.W.Frag) (H : Hp) (v : V) (d : PyData) (t : String) : Prop where
  ty : TyX K H v (.type t)
  tup : kitB t "tuple" = some (isTupD d)
  lst : kitB t "list" = some (isListD d)
  int : kitB t "int" = some (isIntD d)
  bool : kitB t "bool" = some (isBoolD d)
  str : kitB t "str" = some (isStrD d)
theorem Da.kinds {K : PySem.W.Frag} {p : Addr} {H : Hp} {n : Nat} {v : V} {d : PyData} (h : Da p H n v d) : ∃ t, Kinds K H v d t := by
  cases h with
  | non => exact ⟨"NoneType", .base .non, by decide +kernel, by decide +kernel, by decide +kernel, by decide +kernel, by decide +kernel⟩
  | bl _ b => exact ⟨"bool", .base (.bl b), by show _ = some false; decide +kernel, by show _ = some false; decide +kernel, by show _ = some true; decide +kernel, by show _ = some true; decide +kernel, by show _ = some false; decide +kernel⟩
  | int _ i => exact ⟨"int", .base (.int i), by show _ = some false; decide +kernel, by show _ = some false; decide +kernel, by show _ = some true; decide +kernel, by show _ = some false; decide +kernel, by show _ = some false; decide +kernel⟩
  | str _ x => exact ⟨"str", .base (.str x), by show _ = some false; decide +kernel, by show _ = some false; decide +kernel, by show _ = some false; decide +kernel, by show _ = some false; decide +kernel, by show _ = some true; decide +kernel⟩
  | lst _ a1 => exact ⟨"list", .base (.lst a1), by show _ = some false; decide +kernel, by show _ = some true; decide +kernel, by show _ = some false; decide +kernel, by show _ = some false; decide +kernel, by show _ = some false; decide +kernel⟩
  | tup _ a1 => exact ⟨"tuple", .base (.tup a1), by show _ = some true; decide +kernel, by show _ = some false; decide +kernel, by show _ = some false; decide +kernel, by show _ = some false; decide +kernel, by show _ = some false; decide +kernel⟩
/-- repr of a truth -/
theorem cr_reprB {X : Cx} : CallR X (.builtin "repr") (fun xs H Q => ∃ b : Bool, xs = [.bl b] ∧ Q (.str (if b = true then "True" else "False")) H) := by
  intro pins s σ H xs us Q I r h
  obtain ⟨b, rfl, q⟩ := h
  cases r with
  | cons r1 r2 =>
    cases r2
    cases r1
    exact PySem.P.repr_of_bool ⟨.str _, H, I.tok _, ⟨_, rfl⟩, q⟩
/-- xs + ys, a new list -/
def rCatI : R2 := fun x y H Q => ∃ l b xs zs, x = .ref l ∧ y = .ref b ∧ H l = some (.lst xs) ∧ H b = some (.lst zs) ∧ xs.length + zs.length ≤ sizeLine ∧ ∀ p H', Same H H' → H p = none → H' p = some (.lst (xs ++ zs)) → Q (.ref p) H'
theorem op_catI {X : Cx} : OpR X (binaryOp .Add) rCatI := fun pins s σ H x y v u Q I rx ry ⟨l, b, xs, zs, e1, e2, h1, h2, z, k⟩ =>
  op_cat pins s σ H x y v u Q I rx ry ⟨l, b, xs, zs, e1, e2, h1, h2, z, fun p hp => k p _ (same_new hp) hp upd_same⟩
/-- a number; a fraction -/
def isNumD (d : PyData) : Bool := isIntD d && !isBoolD d
def isFracD : PyData → Bool
  | .tuple [.int t, .int b] => decide (0 < b) && decide (Nat.gcd t.natAbs b.natAbs = 1)
  | _ => false
theorem frac_no {d e : PyData} (h : isNumD d = false ∨ isNumD e = false) : isFracD (.tuple [d, e]) = false := by
  cases d <;> cases e <;> first | rfl | (rcases h with h | h <;> cases h)
theorem frac_len {ds : List PyData} (h : ds.length ≠ 2) : isFracD (.tuple ds) = false := by
  match ds, h with
  | [], _ => rfl
  | [d], _ => cases d <;> rfl
  | [_, _], h => exact absurd rfl h
  | d :: e :: _ :: _, _ => cases d <;> cases e <;> rfl
theorem num_int {p : Addr} {H : Hp} {n : Nat} {v : V} {d : PyData} (h : Da p H n v d) (k : isNumD d = true) : ∃ i, d = .int i ∧ v = .int i := by
  cases h with
  | int _ i => exact ⟨i, rfl, rfl⟩
  | non => cases k
  | bl => cases k
  | str => cases k
  | lst => cases k
  | tup => cases k
/-- rows of truths as data -/
theorem dps_bools {K : PySem.W.Frag} {H : Hp} : ∀ bs : List Bool, DpAll K H (bs.map V.bl) (bs.map PyData.bool)
  | [] => .nil
  | b :: r => .cons (.bl b) (dps_bools r)
theorem bools_shaped (bs : List Bool) : SeqAt.shaped (.list (bs.map PyData.bool)) = true := by
  have h : PyData.canLayAll0 (bs.map PyData.bool) = true ∧ PyData.depthAll (bs.map PyData.bool) = 0 := by
    induction bs with
    | nil => exact ⟨rfl, rfl⟩
    | cons b r ih =>
      refine ⟨?_, ?_⟩
      · show (PyData.canLay0 (.bool b) && PyData.canLayAll0 (r.map PyData.bool)) = true
        rw [ih.1] <;> rfl
      · show max (PyData.depth (.bool b)) (PyData.depthAll (r.map PyData.bool)) = 0
        rw [ih.2] <;> rfl
  show (PyData.canLayAll0 (bs.map PyData.bool) && decide (PyData.depthAll (bs.map PyData.bool) + 1 ≤ 64)) = true
  rw [h.1, h.2] <;> rfl
theorem take_one {α : Type} {l : List α} {i : Nat} {x : α} (h : l[i]? = some x) : l.take (i + 1) = l.take i ++ [x] := by
  rw [List.take_add_one, h] <;> rfl
end KR
/-! ### texts -/
namespace KR
open PySem PySem.Spec PyProof.Rows L2
theorem strs_of : ∀ {ys : List Str} {us : List Value}, Vals (ys.map V.str) us → StrsAre us ys
  | [], _, .nil => .nil
  | y :: r, _, .cons h t => by
    obtain ⟨k, rfl⟩ := h
    exact .cons y k (strs_of t)
section
variable {X : Cx} {K : PySem.W.Frag}
/-- sep.join(it), it a list walked from its end -/
theorem join_rev {prog : Program} {w : World} {A : Around} {E : Value → Shared → Prop} {s : Shared} {x : Str} {t : Tok} {it l : Addr} {items : Array Value} {ys : List Str} {Q : Value → Shared → Prop} (hh : A.handled = none)
    (hit : s.heap.IsRevIter it l ((items.size : Int) - 1)) (hl : s.heap.IsList l items) (hne : l ≠ it) (hn : items.size ≤ sizeLine)
    (hP : ∀ acc : Array Value, ItemsOf (fun i v => items[items.size - 1 - i]? = some v) acc items.size → StrsAre acc.toList ys) (hok : (ys.map (·.length)).sum + ys.length * x.length ≤ 16777216)
    (hq : ∀ (h' : Heap) (t' k : Nat), (∀ b o, b ≠ it → s.heap.get? b = some o → h'.get? b = some o) → Q (.str (Txt.join x ys) t') { s with heap := h', toks := k }) :
    wpAny (model prog w) A (call (.builtin "str.join") [.str x t, .ref it]) Q E s := by
  apply wpAny_call
  refine codeAny_call_builtin F.slot_str_join.plain F.entry_str_join (F.slot_str_join.check _ _ _ _ _ _ _ _ (typeIs_str _ _ _) (F.args_str_join_2 _ _) ?_)
  rw [join_tree_other]
  refine wpAny_bind (wpAny_typeOf hit.typeIs ?_)
  show wpAny _ A.in1 ((pyIter (.ref it)).tryCatch _ >>= fun j => collect j >>= fun vs => joinTail x vs) _ _ s
  refine wpAny_bind (wpAny_tryCatch (wpAny_pyIter_revIter hit (wpAny_bind (RT.collect_rev (A := A.in1) hh hit hl hne hn fun h' tk acc hk hacc => ?_))))
  obtain ⟨ps, e1, e2⟩ := strsAre_values (hP acc hacc)
  subst e2
  rw [e1]
  have fits := joinOk_of hok
  unfold JoinOk at fits
  rw [Bool.not_eq_true'] at fits
  have g : Gives (joinTail x (strValues ps)) (joinMade x ps) := by
    have g0 := gives_joinTail x ps fits
    rcases ps with _ | ⟨a, _ | ⟨b, r⟩⟩ <;> exact g0
  exact g prog w A (wants Q E) { s with heap := h', toks := tk } (post_join ps ⟨joinFit_length fits, fun t' k => hq h' t' k hk⟩)
/-- sep.join(reversed(xs)), xs a list of texts -/
def tJoinRev (K : PySem.W.Frag) (to te : TE) : TE := fun σ H Q => to σ H fun x H1 => (∃ a, x = .str a) ∧ te σ H1 fun v H2 => ∃ (a : Str) (q : Addr) (ys : List Str), x = .str a ∧ v = .ref q ∧ SqL K H2 q (ys.map V.str) ∧ (ys.map (·.length)).sum + ys.length * a.length ≤ 16777216 ∧ Q (.str (Txt.join a ys.reverse)) H2
theorem sum_rev (l : List Nat) : l.reverse.sum = l.sum := by
  induction l with
  | nil => rfl
  | cons a r ih =>
    rw [List.reverse_cons, List.sum_append, ih, List.sum_cons, List.sum_cons, List.sum_nil]
    omega
theorem pe_joinRev {o e : Expr} {to te : TE} {apos pos p pos2 : Pos} (hK : X.K = K) (hc : X.calm = true) (hg : Gl X "reversed") (hm : X.mg "reversed" = none) (ho : PE X o to) (he : PE X e te)
    (hs1 : starEach [.Call (.Name "reversed" p) [e] [] pos2] X.env = [(false, eval (.Call (.Name "reversed" p) [e] [] pos2) X.env)] := by rfl) (hs : starEach [e] X.env = (false, eval e X.env) :: starEach [] X.env := by rfl)
    (hbase : attributeBase o "join" X.env (eval o X.env) = eval o X.env := by rfl) (hline : (apos.endLine == pos.line) = true := by rfl) :
    PE X (.Call (.Attribute o "join" apos) [.Call (.Name "reversed" p) [e] [] pos2] [] pos) (tJoinRev K to te) := by
  subst hK
  constructor
  intro pins s σ H Q I want
  refine PySem.Call_method1 hbase hs1 hline (thn (ho.run pins s σ H _ I want) ?_)
  rintro v s1 ⟨x, H1, I1, r1, ⟨a, rfl⟩, q1⟩
  obtain ⟨t, rfl⟩ : ∃ t, v = Value.str a t := r1
  refine ⟨"str", "str.join", F.plainAttrs_str, F.slot_str_join, F.type_str_join, typeIs_str _ _ _, nofun, Calls.callWith_builtin rfl (Calls.evalArgs_plain (Calls.spliced_cons ?_))⟩
  refine Call_ (ld_blt I1 hg hm PyProof.Rows.boot_reversed (PyProof.Rows.callWith_type1 (args_cons (thn (he.run pins s1 σ H1 _ I1 q1) ?_) hs) hs rfl))
  rintro u s2 ⟨y, H2, I2, r2, a', q, ys, ea, rfl, hq, hz, k⟩
  cases ea
  cases r2
  obtain ⟨its, rv, pl, hsz⟩ := I2.list hq
  refine args_nil (call_reversed_list pl.isList (Calls.spliced_nil ?_))
  have old : ∀ b o, s2.heap.get? b = some o → (s2.heap.push (revObj q ((its.toArray.size : Int) - 1))).get? b = some o := fun b o g => Heap.get?_push_of_some _ g
  obtain ⟨oq, hoq, _⟩ := id pl.isList
  have neq : q ≠ s2.heap.objs.size := Nat.ne_of_lt (Heap.lt_size hoq)
  have len : its.toArray.size ≤ sizeLine := by rw [List.size_toArray, ← rv.length]; exact hsz
  refine join_rev (s := { s2 with heap := s2.heap.push (revObj q ((its.toArray.size : Int) - 1)) }) (ys := ys.reverse) (I2.ok.hd hc) ⟨_, Heap.get?_push_size _ rfl, rfl, rfl⟩ (pl.isList.push _) neq len (fun acc hacc => strs_of ?_) ?_ fun h' t' k' keep => ?_
  · rw [List.map_reverse]
    exact RT.vals_rev rv hacc
  · rw [List.map_reverse, sum_rev, List.length_reverse]
    exact hz
  · exact ⟨.str _, H2, I2.kept (t' := k') (fun b o g => keep b o (Nat.ne_of_lt (Heap.lt_size g)) (old b o g)), ⟨t', rfl⟩, k⟩
end
/-! texts as rows of codes -/
abbrev S (l : List Nat) : Str := ⟨l.toArray⟩
theorem tl_S (l : List Nat) : TL.tl (S l) = l := rfl
theorem S_tl (x : Str) : S (TL.tl x) = x := TL.mk_tl x
theorem S_len (l : List Nat) : (S l).length = l.length := by rw [TL.len_tl]
theorem S_app (l m : List Nat) : S l ++ S m = S (l ++ m) := TL.ext_tl (by rw [TL.tl_append])
theorem S_inj {l m : List Nat} (h : S l = S m) : l = m := congrArg TL.tl h
theorem lit_minus : ("-" : Str) = S [45] := by decide +kernel
theorem lit_stroke : ("/" : Str) = S [47] := by decide +kernel
theorem lit_one : ("1" : Str) = S [49] := by decide +kernel
theorem lit_zero : ("0" : Str) = S [48] := by decide +kernel
theorem lit_none : ("" : Str) = S [] := by decide +kernel
theorem lit_empty : Str.empty = S [] := by decide +kernel
theorem lit_digits : ("0123456789" : Str) = S [48, 49, 50, 51, 52, 53, 54, 55, 56, 57] := by decide +kernel
theorem num_S (n : Nat) : Str.ofString (toString ((n : Nat) : Int)) = S (TL.numL n) := TL.ext_tl (TL.tl_num n)
theorem numL_cut (n : Nat) : TL.numL n = (if n / 10 = 0 then [] else TL.numL (n / 10)) ++ [48 + n % 10] := by
  by_cases h : n < 10
  · rw [TL.numL_lt h, if_pos (by omega), show n % 10 = n by omega] <;> rfl
  · rw [TL.numL_step (by omega), if_neg (by omega)]
theorem dig_at {k : Int} (h0 : 0 ≤ k) (h1 : k < 10) : atI ("0123456789" : Str).cps.toList k = some (48 + k.toNat) := by
  rw [lit_digits]
  have ks : k = 0 ∨ k = 1 ∨ k = 2 ∨ k = 3 ∨ k = 4 ∨ k = 5 ∨ k = 6 ∨ k = 7 ∨ k = 8 ∨ k = 9 := by omega
  rcases ks with e | e | e | e | e | e | e | e | e | e <;> subst e <;> rfl
theorem lit_len : ("0123456789" : Str).length ≤ sizeLine := by decide +kernel
/-- text times a number from 0 -/
theorem op_mul_str {X : Cx} : OpR X (binaryOp .Mult) (fun x y H Q => ∃ (a : Str) (n : Nat), x = .str a ∧ y = .int (n : Int) ∧ a.length * n ≤ 100000 ∧ n ≤ 100000 ∧ Q (.str (Txt.mul a n)) H) := by
  intro pins s σ H x y v u Q I rx ry h
  obtain ⟨a, n, rfl, rfl, hz, hn, q⟩ := h
  obtain ⟨t, rfl⟩ := rx
  obtain ⟨t', rfl⟩ := ry
  refine SB.mul ⟨?_, fun h1 h2 => ?_, fun h1 h2 => ?_⟩ fun t2 k => ⟨.str _, H, I.tok _, ⟨_, rfl⟩, q⟩
  · rw [decide_eq_false (by omega), decide_eq_false (by omega)] <;> rfl
  · have n1 : (1 : Int) ≤ (n : Int) := by omega
    intro bad
    have b2 : ((2 ^ 63 - 1 : Int)) / (n : Int) ≥ (2 ^ 63 - 1 : Int) / 100000 := by
      refine Int.le_ediv_of_mul_le (by omega) ?_
      have e : (2 ^ 63 - 1 : Int) / 100000 * (n : Int) ≤ (2 ^ 63 - 1 : Int) / 100000 * 100000 := Int.mul_le_mul_of_nonneg_left (by omega) (by decide)
      exact Int.le_trans e (by decide)
    have a9 : a.length ≤ 100000 := by
      have : a.length * 1 ≤ a.length * n := Nat.mul_le_mul_left _ (by omega)
      omega
    have e3 : (2 ^ 63 - 1 : Int) / 100000 = 92233720368547 := by decide
    omega
  · rw [Int.toNat_natCast]
    exact decide_eq_false (by have := small hz; omega)
theorem mul_zero (a : Str) : Txt.mul a ((0 : Nat) : Int) = S [] := by
  unfold Txt.mul
  rw [if_pos (by decide), lit_empty]
theorem mul_one (a : Str) : Txt.mul a ((1 : Nat) : Int) = a := by
  unfold Txt.mul
  rw [if_neg (by decide), if_pos (by rfl)]
/-- a minus ahead, cut off -/
theorem sub_minus (l : List Nat) : Builtin.Str.subAt (S l) (S [45]) 0 = (l.head? == some 45) := by
  unfold Builtin.Str.subAt
  rcases l with _ | ⟨c, r⟩
  · rfl
  · have e : ((S (c :: r)).cps.extract 0 (0 + (S [45]).length)) = #[c] := by
      apply Array.toList_inj.mp
      rw [Array.toList_extract]
      rfl
    rw [e]
    show (#[c] == #[45]) = (some c == some 45)
    by_cases h : c = 45
    · subst h
      rfl
    · have e2 : (some c == some 45) = false := by
        rw [beq_eq_false_iff_ne]
        exact fun z => h (Option.some.inj z)
      rw [e2, beq_eq_false_iff_ne]
      intro z
      exact h (by have := congrArg (fun a => a[0]?) z; simpa using this)
theorem prefix_minus (l : List Nat) : Txt.removeprefix (S l) (S [45]) = S (if l.head? = some 45 then l.tail else l) := by
  unfold Txt.removeprefix
  rw [sub_minus]
  by_cases h : l.head? = some 45
  · rw [if_pos h, if_pos (by rw [h] <;> rfl)]
    rcases l with _ | ⟨c, r⟩
    · cases h
    · show (if ((S (c :: r)).length - (S [45]).length == (S (c :: r)).length) = true then S (c :: r) else Builtin.Str.strSub (S (c :: r)) (S [45]).length (S (c :: r)).length) = S r
      have e1 : (S (c :: r)).length = r.length + 1 := by rw [S_len] <;> rfl
      have e2 : (S [45]).length = 1 := rfl
      rw [if_neg (by rw [e1, e2, beq_iff_eq]; omega)]
      apply TL.ext_tl
      show ((S (c :: r)).cps.extract (S [45]).length (S (c :: r)).length).toList = r
      rw [Array.toList_extract, e1, e2]
      show List.take (r.length + 1 - 1) (List.drop 1 (c :: r)) = r
      rw [Nat.add_sub_cancel]
      exact List.take_length
  · rw [if_neg h, if_neg (by rw [beq_iff_eq]; exact h)]
    rfl
theorem starts_minus (l : List Nat) : Txt.startswith (S l) (S [45]) = (l.head? == some 45) := by
  unfold Txt.startswith
  rw [sub_minus]
  rcases l with _ | ⟨c, r⟩
  · rfl
  · rw [decide_eq_true (show 0 + (S [45]).length ≤ (S (c :: r)).length by rw [S_len, S_len]; show 0 + 1 ≤ r.length + 1; omega), Bool.true_and]
/-- one to so many figures -/
def figs (l : List Nat) : Bool := !l.isEmpty && l.all fun c => decide (48 ≤ c) && decide (c ≤ 57)
theorem ascii_S (l : List Nat) : Txt.isascii (S l) = l.all (· < 128) := by
  unfold Txt.isascii
  rw [← Array.all_toList]
theorem dig_code : ∀ c, c < 128 → Unicode.isDigit c = (decide (48 ≤ c) && decide (c ≤ 57)) := by decide +kernel
theorem digit_S {l : List Nat} (h : l.all (· < 128) = true) : Txt.isdigit (S l) = figs l := by
  unfold Txt.isdigit figs
  rw [← Array.all_toList, S_len]
  have e1 : decide (l.length > 0) = !l.isEmpty := by
    cases l <;> rfl
  have e2 : l.all Unicode.isDigit = l.all fun c => decide (48 ≤ c) && decide (c ≤ 57) := by
    rw [List.all_eq_true] at h
    clear e1
    induction l with
    | nil => rfl
    | cons c r ih =>
      rw [List.all_cons, List.all_cons, ih fun x hx => h x (List.mem_cons_of_mem _ hx), dig_code c (of_decide_eq_true (h c List.mem_cons_self))]
  rw [e1]
  exact congrArg _ e2
theorem figs_ascii {l : List Nat} (h : figs l = true) : l.all (· < 128) = true := by
  unfold figs at h
  rw [Bool.and_eq_true] at h
  have h3 := List.all_eq_true.mp h.2
  rw [List.all_eq_true]
  intro c hc
  have := h3 c hc
  rw [Bool.and_eq_true] at this
  have h2 := of_decide_eq_true this.2
  exact decide_eq_true (by omega)
theorem figs_num (n : Nat) : figs (TL.numL n) = true := by
  unfold figs
  rw [Bool.and_eq_true]
  refine ⟨?_, ?_⟩
  · have := TL.numL_ne n
    cases e : TL.numL n with
    | nil => exact absurd e this
    | cons _ _ => rfl
  · rw [List.all_eq_true]
    intro c hc
    have := TL.numL_digits n c hc
    rw [decide_eq_true this.1, decide_eq_true this.2] <;> rfl
theorem figs_int {l : List Nat} (h : figs l = true) (z : l.length ≤ 600) : PySem.intText? (S l) = some ((NumText.digitsVal l : Nat) : Int) := by
  unfold figs at h
  rw [Bool.and_eq_true] at h
  have d : NumText.AllDigits l := fun c hc => by
    have := List.all_eq_true.mp h.2 c hc
    rw [Bool.and_eq_true] at this
    exact ⟨of_decide_eq_true this.1, of_decide_eq_true this.2⟩
  have ne : l ≠ [] := by
    intro e
    rw [e] at h
    exact Bool.noConfusion h.1
  exact PySem.intText_digits (x := S l) d ne (by rw [S_len]; omega)
/-- a fraction's text -/
def fracL (t b : Int) : List Nat := (if t < 0 then [45] else []) ++ (TL.numL t.natAbs ++ (if b = 1 then [] else 47 :: TL.numL b.natAbs))
/-- ahead of the first stroke, whether there is one, behind it -/
def cutL : List Nat → List Nat × Bool × List Nat
  | [] => ([], false, [])
  | c :: r => if c = 47 then ([], true, r) else (c :: (cutL r).1, (cutL r).2)
theorem cut_app {a b : List Nat} (h : 47 ∉ a) : cutL (a ++ 47 :: b) = (a, true, b) := by
  induction a with
  | nil => rfl
  | cons c r ih =>
    have hc : c ≠ 47 := fun e => h (by rw [e]; exact List.mem_cons_self)
    have ih' := ih fun m => h (List.mem_cons_of_mem _ m)
    show (if c = 47 then _ else (c :: (cutL (r ++ 47 :: b)).1, (cutL (r ++ 47 :: b)).2)) = _
    rw [if_neg hc, ih']
theorem cut_none {a : List Nat} (h : 47 ∉ a) : cutL a = (a, false, []) := by
  induction a with
  | nil => rfl
  | cons c r ih =>
    have hc : c ≠ 47 := fun e => h (by rw [e]; exact List.mem_cons_self)
    have ih' := ih fun m => h (List.mem_cons_of_mem _ m)
    show (if c = 47 then _ else (c :: (cutL r).1, (cutL r).2)) = _
    rw [if_neg hc, ih']
/-- either no stroke, or the first one -/
theorem cut_ways (l : List Nat) : (47 ∉ l ∧ cutL l = (l, false, [])) ∨ ∃ a b, l = a ++ 47 :: b ∧ 47 ∉ a ∧ cutL l = (a, true, b) := by
  by_cases h : 47 ∈ l
  · obtain ⟨a, b, e, n⟩ := List.eq_append_cons_of_mem h
    exact .inr ⟨a, b, e, n, by rw [e]; exact cut_app n⟩
  · exact .inl ⟨h, cut_none h⟩
end KR
/-! ### defs that ask repr: no repr is under way around them -/
namespace KR
open PySem PySem.Spec PyProof.Rows L2
section
variable {P : Program} {w : World} {K : PySem.W.Frag} {mg : Str → Option Value} {base : Heap}
structure FnG (P : Program) (w : World) (K : PySem.W.Frag) (mg : Str → Option Value) (base : Heap) (k : Nat) (f : Addr) (fd : FuncData) (ps : List Str) (sp : Sp) : Prop where
  many : ∀ vs H Q E, sp vs H Q E → vs.length = ps.length
  does : ∀ (A : Around) (outer : List Env) (s : Shared) (H : Hp) (args : Args) (us : List Value) (vs : List V) (Q : VK) (E : XK), Room k A → A.guards = some [] → Env0 P w K mg base A outer s H → BindsTo s fd args (ps.zip us) → Vals vs us →
    sp vs H Q E → codeAny (model P w) A (.call (.ref f) args) (CR CX0 outer P w H s Q E) s
/-- the end of a def's body is the end of its call -/
theorem body_end {N : List Str} {qual : Str} {sc : Scope} {f : Addr} {cdv : Value} {A : Around} {outer : List Env} {s s' : Shared} {H : Hp} {Q : VK} {E : XK} {fl : Flow}
    (h : SP (cxOf CX0 P w K mg base N qual sc f cdv A outer s H E) [] { nx := fun _ H' => Q .non H', rt := Q } fl s') : CR CX0 outer P w H s Q E (.ok (.ret (match fl with | .ret u => u | _ => .none))) s' ∧ (∀ u, fl = .ret u ∨ fl = .next ∨ fl = .brk ∨ fl = .cont → True) ∧ fl ≠ .brk ∧ fl ≠ .cont := by
  cases fl <;> simp only [SP] at h
  case next => obtain ⟨_, H', J, q⟩ := h; exact ⟨⟨V.non, H', J.os, J.bare, J.base, J.hok, rfl, q⟩, fun _ _ => trivial, nofun, nofun⟩
  case ret u => obtain ⟨v, _, H', J, rv, q⟩ := h; exact ⟨⟨v, H', J.os, J.bare, J.base, J.hok, rv, q⟩, fun _ _ => trivial, nofun, nofun⟩
  case brk => exact absurd h.choose_spec.choose_spec.2 id
  case cont => exact absurd h.choose_spec.choose_spec.2 id
theorem okG {x qual : Str} {st : Stmt} {f : Addr} {fd : FuncData} {N ps : List Str} {k : Nat} {sp : Sp} (F : Fun K x qual st f fd) (S : FnScope N ps (defScope st)) (many : ∀ vs H Q E, sp vs H Q E → vs.length = ps.length)
    (body : ∀ (cdv : Value) (A : Around) (outer : List Env) (s : Shared) (H : Hp) (vs : List V) (Q : VK) (E : XK), Room k (A.deeper (envOfC qual (defScope st) s.heap.objs.size f cdv)) → A.guards = some [] → sp vs H Q E →
      ∃ t, PSs (cxOf CX0 P w K mg base N qual (defScope st) f cdv A outer s H E).nox (defBody st) t ∧ t { nx := fun _ H' => Q .non H', rt := Q } (start N vs) H) : FnG P w K mg base (k + 1) f fd ps sp := by
  obtain ⟨_, _, _, _, _, _, cdv, _, _, rfl, lk, hcd⟩ := F.ex
  refine ⟨many, ?_⟩
  intro A outer s H args us vs Q E hr hg e0 hb rv hsp
  obtain ⟨t, ht, hq⟩ := body cdv A outer s H vs Q E (hr.deeper _) hg hsp
  have inK : K.In s.heap := e0.mod.kin.keeps fun b o q => (e0.bs b o q).1
  apply codeAny_call_function hr.depth (inK _ _ lk) rfl S.co S.gen rfl (PySem.W.codeRec_of inK hcd)
  refine hb _ _ _ _ (wpAny_newFunctionEnv_cells S.kind ?_ ?_)
  · rintro ⟨n, v⟩ hy
    exact (S.par n (List.of_mem_zip hy).1).imp id fun q => ⟨q, PySem.W.cellsFrom_some _ _ _ (Or.inl q)⟩
  · rintro env rfl s1 made
    refine ⟨(e0.mod.nolimit.keeps fun b o q => (e0.bs b o q).1).keeps made.toInCall.keep, codeAny_func ?_⟩
    have I := inv_start (CX := CX0) (E := E) S hr.hd e0 (many _ _ _ _ hsp) rv made
    refine wpAny_mono (ht.nox.run [] s1 (start N vs) H _ I hq) (fun fl s' hs => ?_) fun _ _ z => z
    obtain ⟨r, _, n1, n2⟩ := body_end hs
    cases fl with
    | next => exact r
    | ret u => exact r
    | brk => exact absurd rfl n1
    | cont => exact absurd rfl n2
end
section
variable {X : Cx} {k : Nat} {f : Addr} {fd : FuncData} {ps : List Str} {sp : Sp} {ds : List Value} {dvs : List V} {E : XK} {x : Str} {p pos : Pos} {e : Expr} {es : List Expr} {t : TA}
/-- a call of such a def, where no repr is under way -/
theorem pe_callG (F : FnG X.prog X.w X.K X.mg X.base k f fd ps sp) (room : Room k X.A) (calm : X.A.guards = some []) (glob : Gl X x) (at_ : X.mg x = some (.ref f)) (keep : PySem.W.keepIn X.K (.ref f) = true) (binds : Binds X.K fd ps ds) (dflt : Vals dvs ds) (pass : Passes CX0 X E)
    (args : PA X (e :: es) t) (nd : (x == ("__debug__" : Str)) = false := by decide) (he : starEach (e :: es) X.env = (false, eval e X.env) :: starEach es X.env := by rfl) (hpl : (backTo pos (starEach es X.env)).any (·.1) = false := by rfl) :
    PE X (.Call (.Name x p) (e :: es) [] pos) (tCall sp dvs E t) := by
  constructor
  intro pins s σ H Q I want
  refine wpAny_Call_Name_kw (ld_glob I glob at_ (PySem.W.callWith_K (h₀ := X.base) I.ok.mod.kin keep (thn (args.run pos pins s σ H _ I want) ?_) he hpl) nd)
  rintro us s1 ⟨vs, H1, I1, r, q⟩
  have many := F.many _ _ _ _ q
  have both : Vals (vs ++ dvs) (us ++ ds) := r.append dflt
  refine ⟨I1.kIn, wpAny_call (codeAny_mono (F.does X.A X.stack s1 H1 ⟨us, []⟩ _ _ Q E room calm I1.env0 (binds s1 us I1.kIn (both.length ▸ many)) both q) ?_)⟩
  intro r s' post
  match r, post with
  | .error e, post => exact pass pins σ H1 s1 e s' I1 post
  | .ok (.ret u), post => exact I1.after post
  | .ok .next, post => exact post.elim
  | .ok .brk, post => exact post.elim
  | .ok .cont, post => exact post.elim
end
/-- a def that asks no repr is one -/
theorem FnG.of {P : Program} {w : World} {K : PySem.W.Frag} {mg : Str → Option Value} {base : Heap} {k : Nat} {f : Addr} {fd : FuncData} {ps : List Str} {sp : Sp} (F : FnOk P w K mg base CX0 k f fd ps sp) : FnG P w K mg base k f fd ps sp :=
  ⟨F.len, fun A outer s H args us vs Q E hr _ => F.run A outer s H args us vs Q E hr⟩
/-- repr of data that is no text -/
def rReprD (K : PySem.W.Frag) : List V → Hp → VK → Prop := fun xs H Q => ∃ (a : Addr) (d : PyData), xs = [.ref a] ∧ Dp K H (.ref a) d ∧ d.showable = true ∧ d.hasDict = false ∧ d.depth ≤ 60 ∧ d.shown.length ≤ sizeLine ∧ Q (.str d.shown) H
theorem cr_reprD {X : Cx} (hg : X.A.guards = some []) (hu : X.A.units + 64 < cLine) : CallR X (.builtin "repr") (rReprD X.K) := by
  intro pins s σ H xs us Q I r h
  obtain ⟨a, d, rfl, dp, sh, nd, dd, sz, q⟩ := h
  cases r with
  | cons r1 r2 =>
    cases r2
    cases r1
    obtain ⟨as, rd⟩ := Dp.reads I d _ _ dp rfl
    exact repr_of_reads' rd sh (PyData.noDict_hsm nd) hg (by omega) (fun _ _ e => e) (fun h' u tk hk => ⟨.str _, H, I.kept (fun b o e => hk b o e), ⟨_, rfl⟩, q⟩) sz
theorem cr_reprDK {X : Cx} {K : PySem.W.Frag} (h : X.K = K) (hg : X.A.guards = some []) (hu : X.A.units + 64 < cLine) : CallR X (.builtin "repr") (rReprD K) := h ▸ cr_reprD hg hu
section
variable {P : Program} {w : World} {K : PySem.W.Frag} {mg mb : Str → Option Value} {k : Nat} {fa a : Addr} {fd : FuncData} {x : Str} {sp : Sp} {s₁ : Shared} {vs : List Value} {ns : List Int}
/-- what is tracked when the law is called: the script, unless the module itself made it -/
def scr (K : PySem.W.Frag) (a : Addr) (ob : Obj) (ns : List Int) : Hp := fun b => if b = a ∧ K.lookup a = none then some (.frz ob (.lst (ns.map V.int))) else none
theorem scr_some {ob : Obj} {b : Addr} {u : HO} (h : scr K a ob ns b = some u) : b = a ∧ K.lookup a = none ∧ u = .frz ob (.lst (ns.map V.int)) := by
  unfold scr at h
  split at h
  · rename_i c
    exact ⟨c.1, c.2, (Option.some.inj h).symm⟩
  · cases h
theorem call_law (inK : K.In s₁.heap) (gl : s₁.heap.Ns mainGlobals mg) (bl : s₁.heap.Ns builtinsNs mb) (boot : ∀ x : Str, x ≠ "__name__" → mb x = bootBuiltins x) (lim : s₁.heap.NoLimit) (quiet : s₁.gens = #[])
    (there : s₁.heap.get? a = some { cls := .type "list", data := .seq vs.toArray }) (areInts : IntsAre vs ns) (len : ns.length ≤ sizeLine) (room : Room k callerA)
    (F : ∀ base : Heap, K.In base → base.Ns mainGlobals mg → FnG P w K mg base k fa fd [x] sp) (binds : ∀ (s : Shared) (u : Value), BindsTo s fd ⟨[u], []⟩ [(x, u)])
    (asked : ∀ H : Hp, Only H → SqL K H a (ns.map V.int) → sp [.ref a] H (fun v _ => v = .bl true) fun _ _ _ => False) :
    codeAny (model P w) callerA (.call (.ref fa) ⟨[.ref a], []⟩) (fun r s' => r = .ok (.ret (.bool true)) ∧ OldK s₁.heap s'.heap ∧ s'.os = s₁.os ∧ AllBare s'.gens) s₁ := by
  let ob : Obj := { cls := .type "list", data := .seq vs.toArray }
  let H := scr K a ob ns
  have at_ : ∀ {b u}, H b = some u → b = a ∧ K.lookup a = none ∧ u = .frz ob (.lst (ns.map V.int)) := scr_some
  have no : ∀ b o, s₁.heap.get? b = some o → (∀ q, o ≠ { cls := .type "list", data := .seq q }) → H b = none := fun b o e d => by
    cases c : H b with
    | none => rfl
    | some u =>
      obtain ⟨rfl, _⟩ := at_ c
      exact absurd (Option.some.inj (e.symm.trans there)) (d _)
  have keepNs : ∀ {b : Addr} {m : Str → Option Value}, s₁.heap.Ns b m → (hidT s₁.heap H).Ns b m := fun {b m} ⟨o, es, ep, e, d, r⟩ =>
    ⟨o, es, ep, hidT_get e (no b o e fun q z => by rw [z] at d; cases d), d, r⟩
  have keepK : K.In (hidT s₁.heap H) := fun b o e => hidT_get (inK b o e) (by
    cases c : H b with
    | none => rfl
    | some u =>
      obtain ⟨rfl, n, _⟩ := at_ c
      rw [n] at e
      cases e)
  have rel := vals_ints areInts
  have holds : HOk P w H s₁.heap := fun b u c => by
    obtain ⟨rfl, _, rfl⟩ := at_ c
    exact ⟨there, by rw [List.length_map]; exact len, vs, _, rel, there⟩
  have only : Only H := fun b => by
    cases c : H b with
    | none => exact Or.inl rfl
    | some u => exact Or.inr ⟨ob, _, by rw [(at_ c).2.2]⟩
  have script : SqL K H a (ns.map V.int) := by
    cases c : K.lookup a with
    | none => exact Or.inl (Or.inr ⟨ob, if_pos ⟨rfl, c⟩⟩)
    | some o =>
      have e := Option.some.inj ((inK a o c).symm.trans there)
      subst e
      exact Or.inr ⟨_, vs.toArray, _, c, rfl, rfl, rfl, by rw [List.size_toArray, areInts.length]; exact len, by simpa using rel⟩
  have modul : Mod K mg (hidT s₁.heap H) := ⟨keepK, keepNs gl, ⟨mb, keepNs bl, boot⟩, lim.elim fun mc z => ⟨mc, keepNs z.1, z.2⟩⟩
  have start0 : Env0 P w K mg (hidT s₁.heap H) callerA [] s₁ H := ⟨rfl, modul, fun b o e => of_hidT e, Nat.le_of_eq (hidT_size _ _), trivial, fun b hb => (List.not_mem_nil hb).elim, holds, .of_eq quiet⟩
  refine codeAny_mono ((F _ keepK (keepNs gl)).does callerA [] s₁ H _ [.ref a] [.ref a] _ _ room rfl start0 (binds s₁ (.ref a)) (.cons rfl .nil) (asked H only script)) ?_
  intro r s' post
  match r, post with
  | .error e, post => exact False.elim post
  | .ok .next, post => exact post.elim
  | .ok .brk, post => exact post.elim
  | .ok .cont, post => exact post.elim
  | .ok (.ret u), ⟨v, H', os, bare, un, held, rv, e⟩ =>
    cases (show v = V.bl true from e)
    cases (show u = Value.bool true from rv)
    refine ⟨rfl, OldK.of_keep fun b o g => ?_, os, bare⟩
    cases c : H b with
    | none => exact un.keep b o g c (fun z => (List.not_mem_nil z).elim) (fun z => (List.not_mem_nil z).elim)
    | some u =>
      obtain ⟨rfl, _, rfl⟩ := at_ c
      rw [Option.some.inj (g.symm.trans there)]
      exact (held b _ (un.frzs b ob _ c)).1
end
/-- the goal that is left of a law whose defs ask repr -/
theorem walk_ofG {l : PySem.W.OpenLaw} {n k : Nat} {q : Program} {loose : List Str} {XP : (Str → Option Value) → Heap → Prop} {YP : World → Heap → Prop} {d : DefRec} {K : Params → PySem.W.Frag} {sp : World → Sp} {x : Str}
    (most : l.most = some n) (n9 : n ≤ sizeLine) (nodf : d.params.defaults = []) (room : Room k callerA) (inK : ∀ (w : World) (h : Heap), YP w h → (K w.params).In h)
    (F : ∀ (w : World) (mg : Str → Option Value) (fa : Addr) (h : Heap), (K w.params).In h → h.Ns mainGlobals mg → mg d.name = some (.ref fa) →
      ∃ fd : FuncData, (∀ (s : Shared) (u : Value), BindsTo s fd ⟨[u], []⟩ [(x, u)]) ∧ ∀ base : Heap, (K w.params).In base → base.Ns mainGlobals mg → FnG l.prog w (K w.params) mg base k fa fd [x] (sp w))
    (asked : ∀ (w : World) (H : Hp) (a : Addr) (ns : List Int), ns.length ≤ n → Only H → SqL (K w.params) H a (ns.map V.int) → sp w [.ref a] H (fun v _ => v = .bl true) fun _ _ _ => False) :
    PySem.W.WalkO q loose XP YP l.row.toRowW d [] (fun f vs => PySem.call f vs) :=
  Att.attach_call most nodf fun w s₀ s₁ mg mb fa o pm cd doc a vs ns G Y ho hd hcd hmg hobj hints hlen hg => by
    obtain ⟨fd, b, f⟩ := F w mg fa _ (inK w _ Y) G.T.g hmg
    exact call_law (inK w _ Y) G.T.g G.T.b G.T.builtins G.T.nolimit hg hobj hints (Nat.le_trans hlen n9) room f b fun H only sc => asked w H a ns hlen only sc
end KR
/-! ### fractions as numbers of the field -/
namespace KR
open PySem PySem.Spec PyProof.Rows L2
theorem Same.tup {K : PySem.W.Frag} {H H' : Hp} {a : Addr} {xs : List V} (e : Same H H') (h : SqT K H a xs) : SqT K H' a xs :=
  h.elim (fun h => .inl (h.elim (fun h => .inl (e _ _ h)) fun ⟨o, h⟩ => .inr ⟨o, e _ _ h⟩)) fun h => .inr h
theorem sqT_ty {K : PySem.W.Frag} {H : Hp} {a : Addr} {xs : List V} (h : SqT K H a xs) : TyX K H (.ref a) (.type "tuple") := by
  rcases h with (h | ⟨o, h⟩) | ⟨o, its, n, h1, h2, _⟩
  · exact .base (.tup h)
  · exact .fTuple h
  · exact .kTuple h1 h2
theorem sqT_frL {K : PySem.W.Frag} {H H' : Hp} {a p : Addr} {xs ys : List V} (h : SqT K H a xs) (hp : H p = some (.lst ys)) (f : Fr p H H') : SqT K H' a xs := by
  rcases h with (h | ⟨o, h⟩) | h
  · exact .inl (.inl (f _ _ (ne_of h hp (by intro z; cases z)) h))
  · exact .inl (.inr ⟨o, f _ _ (ne_of h hp (by intro z; cases z)) h⟩)
  · exact .inr h
theorem sqT_fr {K : PySem.W.Frag} {H H' : Hp} {a p : Addr} {n : Nat} {xs : List V} (h : SqT K H a xs) (B : BoxAt H p n) (f : Fr p H H') : SqT K H' a xs := by
  obtain ⟨i, j, k, hp, _⟩ := B
  exact sqT_frL h hp f
theorem fr_upd {p : Addr} {H : Hp} {o : HO} : Fr p H (upd H p o) := Fr.put Fr.refl
theorem BoxAt.upd {H : Hp} {p D : Addr} {n : Nat} {o : HO} (h : BoxAt H p n) (ne : D ≠ p) : BoxAt (L2.upd H D o) p n := by
  obtain ⟨a, b, c, h1, h2⟩ := h
  exact ⟨a, b, c, by rw [upd_ne ne.symm]; exact h1, h2⟩
def rq (t b : Int) : Rat := (t : Rat) / (b : Rat)
theorem rat_nd (q : Rat) : (q.num : Rat) / ((q.den : Int) : Rat) = q := by rw [← Rat.divInt_eq_div, Rat.num_divInt_den]
theorem den_ne (q : Rat) : ((q.den : Int) : Rat) ≠ 0 := by
  intro h
  have k := q.den_pos
  have h2 : ((q.den : Int) : Rat) = ((0 : Int) : Rat) := h
  have e := Rat.intCast_inj.mp h2
  omega
theorem den_ne' (q : Rat) : (q.den : Int) ≠ 0 := by
  have k := q.den_pos
  omega
theorem int_ne {b : Int} (h : b ≠ 0) : (b : Rat) ≠ 0 := fun z => h (Rat.intCast_inj.mp (z.trans (by rfl : (0 : Rat) = ((0 : Int) : Rat))))
theorem rat_low (q : Rat) : IsLow q.num q.den := ⟨by have k := q.den_pos; omega, by rw [Int.natAbs_natCast]; exact q.reduced⟩
theorem rq_cross {t b : Int} (hb : b ≠ 0) : t * ((rq t b).den : Int) = (rq t b).num * b := by
  have e := rat_nd (rq t b)
  have h1 := den_ne (rq t b)
  have h2 := int_ne hb
  refine Rat.intCast_inj.mp ?_
  rw [Rat.intCast_mul, Rat.intCast_mul]
  generalize ((rq t b).den : Int) = d at *
  generalize (rq t b).num = n at *
  unfold rq at e
  grind
theorem rq_low {t b : Int} (hb : b ≠ 0) : low t b = ((rq t b).num, ((rq t b).den : Int)) := low_eq hb (rat_low _) (rq_cross hb)
theorem cast_pos {b : Int} (h : 0 < b) : (0 : Rat) < (b : Rat) := (Rat.intCast_lt_intCast (a := 0)).mpr h
theorem cast_nn {b : Int} (h : 0 ≤ b) : (0 : Rat) ≤ (b : Rat) := (Rat.intCast_le_intCast (a := 0)).mpr h
theorem le_div {a b c : Rat} (h : 0 < c) (k : a * c ≤ b) : a ≤ b / c := Rat.not_lt.mp fun z => absurd ((Rat.div_lt_iff h).mp z) (Rat.not_lt.mpr k)
theorem div_le {a b c : Rat} (h : 0 < c) (k : b ≤ a * c) : b / c ≤ a := Rat.not_lt.mp fun z => absurd ((Rat.lt_div_iff h).mp z) (Rat.not_lt.mpr k)
theorem rq_nn {t b : Int} (ht : 0 ≤ t) (hb : 0 < b) : 0 ≤ rq t b := by
  have h1 := cast_nn ht
  have h2 := cast_pos hb
  unfold rq
  generalize (t : Rat) = x at *
  generalize (b : Rat) = y at *
  exact le_div h2 (by grind)
theorem rq_pos {t b : Int} (ht : 0 < t) (hb : 0 < b) : 0 < rq t b := by
  have h1 := cast_pos ht
  have h2 := cast_pos hb
  unfold rq
  generalize (t : Rat) = x at *
  generalize (b : Rat) = y at *
  exact (Rat.lt_div_iff h2).mpr (by grind)
theorem rq_lt_one {t b : Int} (ht : t < b) (hb : 0 < b) : rq t b < 1 := by
  have h1 := Rat.intCast_lt_intCast.mpr ht
  have h2 := cast_pos hb
  unfold rq
  generalize (t : Rat) = x at *
  generalize (b : Rat) = y at *
  exact (Rat.div_lt_iff h2).mpr (by grind)
theorem rq_le_one {t b : Int} (ht : t ≤ b) (hb : 0 < b) : rq t b ≤ 1 := by
  have h1 := Rat.intCast_le_intCast.mpr ht
  have h2 := cast_pos hb
  unfold rq
  generalize (t : Rat) = x at *
  generalize (b : Rat) = y at *
  exact div_le h2 (by grind)
theorem rq_add (p q : Rat) : rq (p.num * q.den + q.num * p.den) (p.den * q.den) = p + q := by
  have e1 := rat_nd p
  have e2 := rat_nd q
  have h1 := den_ne p
  have h2 := den_ne q
  unfold rq
  rw [Rat.intCast_add, Rat.intCast_mul, Rat.intCast_mul, Rat.intCast_mul]
  generalize ((p.den : Int) : Rat) = d at *
  generalize (p.num : Rat) = n at *
  generalize ((q.den : Int) : Rat) = d2 at *
  generalize (q.num : Rat) = n2 at *
  grind
theorem rq_sub (p q : Rat) : rq (p.num * q.den - q.num * p.den) (p.den * q.den) = p - q := by
  have e1 := rat_nd p
  have e2 := rat_nd q
  have h1 := den_ne p
  have h2 := den_ne q
  unfold rq
  rw [Rat.intCast_sub, Rat.intCast_mul, Rat.intCast_mul, Rat.intCast_mul]
  generalize ((p.den : Int) : Rat) = d at *
  generalize (p.num : Rat) = n at *
  generalize ((q.den : Int) : Rat) = d2 at *
  generalize (q.num : Rat) = n2 at *
  grind
theorem rq_mul (p q : Rat) : rq (p.num * q.num) (p.den * q.den) = p * q := by
  have e1 := rat_nd p
  have e2 := rat_nd q
  have h1 := den_ne p
  have h2 := den_ne q
  unfold rq
  rw [Rat.intCast_mul, Rat.intCast_mul]
  generalize ((p.den : Int) : Rat) = d at *
  generalize (p.num : Rat) = n at *
  generalize ((q.den : Int) : Rat) = d2 at *
  generalize (q.num : Rat) = n2 at *
  grind
theorem rq_div (p q : Rat) : rq (p.num * q.den) (p.den * q.num) = p / q := by
  have e1 := rat_nd p
  have e2 := rat_nd q
  have h1 := den_ne p
  have h2 := den_ne q
  unfold rq
  rw [Rat.intCast_mul, Rat.intCast_mul]
  generalize ((p.den : Int) : Rat) = d at *
  generalize (p.num : Rat) = n at *
  generalize ((q.den : Int) : Rat) = d2 at *
  generalize (q.num : Rat) = n2 at *
  grind
theorem rq_self (q : Rat) : rq q.num q.den = q := rat_nd q
theorem num_ne {q : Rat} (h : q ≠ 0) : q.num ≠ 0 := fun z => h (by
  have e := rat_nd q
  rw [z] at e
  rw [← e]
  grind)
theorem num_zero {q : Rat} : q.num = 0 ↔ q = 0 := ⟨fun z => Classical.byContradiction fun y => num_ne y z, fun z => by rw [z] <;> rfl⟩
theorem num_pos {q : Rat} : 0 < q.num ↔ 0 < q := by
  have k := Rat.lt_iff 0 q
  simp at k
  exact k.symm
theorem num_nn {q : Rat} : 0 ≤ q.num ↔ 0 ≤ q := Rat.num_nonneg
theorem lt_cross (p q : Rat) : (p.num * q.den < q.num * p.den) ↔ p < q := (Rat.lt_iff p q).symm
/-- top and bottom fit so many bits -/
def Sz (n : Nat) (q : Rat) : Prop := q.num.natAbs < 2 ^ n ∧ (q.den : Int).natAbs < 2 ^ n
theorem Sz.up {n m : Nat} {q : Rat} (h : Sz n q) (le : n ≤ m) : Sz m q := ⟨lt_up h.1 le, lt_up h.2 le⟩
theorem sz_rq {t b : Int} {n : Nat} (hb : b ≠ 0) (h1 : t.natAbs < 2 ^ n) (h2 : b.natAbs < 2 ^ n) : Sz n (rq t b) := by
  have k := low_lt h1 h2
  rw [rq_low hb] at k
  exact k
theorem Sz.int {z : Int} {n : Nat} (h : z.natAbs < 2 ^ n) (h0 : 0 < n) : Sz n (z : Rat) := ⟨h, Nat.lt_of_lt_of_le (by decide : (1 : Nat) < 2 ^ 1) (Nat.pow_le_pow_right (by decide) h0)⟩
theorem Sz.neg {n : Nat} {q : Rat} (h : Sz n q) : Sz n (-q) := ⟨by
  show (-q.num).natAbs < 2 ^ n
  rw [Int.natAbs_neg]
  exact h.1, h.2⟩
/-- a fraction that is read -/
def FrQ (K : PySem.W.Frag) (H : Hp) (x : Addr) (q : Rat) : Prop := SqT K H x [.int q.num, .int (q.den : Int)]
theorem FrQ.same {K : PySem.W.Frag} {H H' : Hp} {x : Addr} {q : Rat} (h : FrQ K H x q) (s : Same H H') : FrQ K H' x q := Same.tup s h
theorem FrQ.fr {K : PySem.W.Frag} {H H' : Hp} {x p : Addr} {n : Nat} {q : Rat} (h : FrQ K H x q) (B : BoxAt H p n) (f : Fr p H H') : FrQ K H' x q := sqT_fr h B f
theorem FrQ.of {K : PySem.W.Frag} {H : Hp} {x : Addr} {q : Rat} (h : H x = some (.tup [.int q.num, .int (q.den : Int)])) : FrQ K H x q := SqT.of h
theorem FrQ.int {K : PySem.W.Frag} {H : Hp} {x : Addr} {z : Int} (h : H x = some (.tup [.int z, .int 1])) : FrQ K H x (z : Rat) := SqT.of h
/-- a juice that is read -/
def JuQ (K : PySem.W.Frag) (H : Hp) (x : Addr) (s w : Rat) : Prop := ∃ a b, SqT K H x [.ref a, .ref b] ∧ FrQ K H a s ∧ FrQ K H b w
theorem JuQ.same {K : PySem.W.Frag} {H H' : Hp} {x : Addr} {s w : Rat} (h : JuQ K H x s w) (e : Same H H') : JuQ K H' x s w := by
  obtain ⟨a, b, h1, h2, h3⟩ := h
  exact ⟨a, b, Same.tup e h1, h2.same e, h3.same e⟩
theorem JuQ.fr {K : PySem.W.Frag} {H H' : Hp} {x p : Addr} {n : Nat} {s w : Rat} (h : JuQ K H x s w) (B : BoxAt H p n) (f : Fr p H H') : JuQ K H' x s w := by
  obtain ⟨a, b, h1, h2, h3⟩ := h
  exact ⟨a, b, sqT_fr h1 B f, h2.fr B f, h3.fr B f⟩
theorem JuQ.new {K : PySem.W.Frag} {H : Hp} {x a b : Addr} {s w : Rat} (h : H x = some (.tup [.ref a, .ref b])) (ha : FrQ K H a s) (hb : FrQ K H b w) : JuQ K H x s w := ⟨a, b, SqT.of h, ha, hb⟩
/-- a new pair of two numbers' lowest terms -/
def sp_lowQ (K : PySem.W.Frag) : Sp := fun vs H Q _ => ∃ (t b : Int) (n : Nat), vs = [.int t, .int b] ∧ b ≠ 0 ∧ t.natAbs < 2 ^ n ∧ b.natAbs < 2 ^ n ∧ n ≤ 2000 ∧ ∀ p H', Same H H' → H p = none → FrQ K H' p (rq t b) → Sz n (rq t b) → Q (.ref p) H'
theorem lowQ {K : PySem.W.Frag} {vs : List V} {H : Hp} {Q : VK} {E : XK} (h : sp_lowQ K vs H Q E) : sp_low vs H Q E := by
  obtain ⟨t, b, n, e, hb, h1, h2, hn, q⟩ := h
  refine ⟨t, b, e, hb, lt_up h1 hn, lt_up h2 hn, fun p H' s hp h' => q p H' s hp ?_ (sz_rq hb h1 h2)⟩
  rw [rq_low hb] at h'
  exact .of h'
/-- two fractions in, one out -/
def sp_q2 (K : PySem.W.Frag) (f : Rat → Rat → Rat) (ok : Rat → Rat → Prop) : Sp := fun vs H Q _ => ∃ (x y : Addr) (p q : Rat) (m n : Nat), vs = [.ref x, .ref y] ∧ FrQ K H x p ∧ FrQ K H y q ∧ Sz m p ∧ Sz n q ∧ m + n ≤ 1900 ∧ ok p q ∧
  ∀ z H', Same H H' → H z = none → FrQ K H' z (f p q) → Sz (m + n + 1) (f p q) → Q (.ref z) H'
def sp_less (K : PySem.W.Frag) : Sp := fun vs H Q _ => ∃ (x y : Addr) (p q : Rat), vs = [.ref x, .ref y] ∧ FrQ K H x p ∧ FrQ K H y q ∧ Sz 1900 p ∧ Sz 1900 q ∧ Q (.bl (decide (p < q))) H
theorem mulZ {i j : Int} {a b : Nat} (ha : i.natAbs < 2 ^ a) (hb : j.natAbs < 2 ^ b) (h : a + b ≤ 100000) : IntMulOk i j :=
  mulW (lt_up ha (by omega : a ≤ a + 1)) (lt_up hb (by omega : b ≤ b + 1)) (by omega) (by omega) (by omega)
/-! data of the law's own making, tuples of the written part among them -/
inductive Dk (K : PySem.W.Frag) (H : Hp) : Nat → V → PyData → Prop
  | non (n : Nat) : Dk K H (n + 1) .non .none
  | bl (n : Nat) (b : Bool) : Dk K H (n + 1) (.bl b) (.bool b)
  | int (n : Nat) (i : Int) : Dk K H (n + 1) (.int i) (.int i)
  | str (n : Nat) (x : Str) (ok : PyData.canLay0 (.str x) = true) : Dk K H (n + 1) (.str x) (.str x)
  | lst {n : Nat} {a : Addr} {xs : List V} {ds : List PyData} : H a = some (.lst xs) → xs.length = ds.length → xs.length ≤ 100000 → (∀ (i : Nat) (x : V) (d : PyData), xs[i]? = some x → ds[i]? = some d → Dk K H n x d) → Dk K H (n + 1) (.ref a) (.list ds)
  | tup {n : Nat} {a : Addr} {xs : List V} {ds : List PyData} : SqT K H a xs → xs.length = ds.length → xs.length ≤ 100000 → (∀ (i : Nat) (x : V) (d : PyData), xs[i]? = some x → ds[i]? = some d → Dk K H n x d) → Dk K H (n + 1) (.ref a) (.tuple ds)
theorem Dk.same {K : PySem.W.Frag} {H H' : Hp} (s : Same H H') : ∀ {n : Nat} {v : V} {d : PyData}, Dk K H n v d → Dk K H' n v d := by
  intro n v d h
  induction h with
  | non n => exact .non n
  | bl n b => exact .bl n b
  | int n i => exact .int n i
  | str n x ok => exact .str n x ok
  | lst h1 h2 h3 _ ih => exact .lst (s _ _ h1) h2 h3 ih
  | tup h1 h2 h3 _ ih => exact .tup (Same.tup s h1) h2 h3 ih
theorem Dk.up {K : PySem.W.Frag} {H : Hp} {n m : Nat} {v : V} {d : PyData} (h : Dk K H n v d) : n ≤ m → Dk K H m v d := by
  intro le
  induction h generalizing m with
  | non n => obtain ⟨k, rfl⟩ : ∃ k, m = k + 1 := ⟨m - 1, by omega⟩; exact .non k
  | bl n b => obtain ⟨k, rfl⟩ : ∃ k, m = k + 1 := ⟨m - 1, by omega⟩; exact .bl k b
  | int n i => obtain ⟨k, rfl⟩ : ∃ k, m = k + 1 := ⟨m - 1, by omega⟩; exact .int k i
  | str n x ok => obtain ⟨k, rfl⟩ : ∃ k, m = k + 1 := ⟨m - 1, by omega⟩; exact .str k x ok
  | lst h1 h2 h3 _ ih => obtain ⟨k, rfl⟩ : ∃ k, m = k + 1 := ⟨m - 1, by omega⟩; exact .lst h1 h2 h3 fun i x d a b => ih i x d a b (by omega)
  | tup h1 h2 h3 _ ih => obtain ⟨k, rfl⟩ : ∃ k, m = k + 1 := ⟨m - 1, by omega⟩; exact .tup h1 h2 h3 fun i x d a b => ih i x d a b (by omega)
/-- rows of data beside their values -/
def DkAll (K : PySem.W.Frag) (H : Hp) (n : Nat) (xs : List V) (ds : List PyData) : Prop := xs.length = ds.length ∧ ∀ (i : Nat) (x : V) (d : PyData), xs[i]? = some x → ds[i]? = some d → Dk K H n x d
theorem DkAll.nil {K : PySem.W.Frag} {H : Hp} {n : Nat} : DkAll K H n [] [] := ⟨rfl, fun i x d h => by simp at h⟩
theorem DkAll.cons {K : PySem.W.Frag} {H : Hp} {n : Nat} {x : V} {d : PyData} {xs : List V} {ds : List PyData} (h : Dk K H n x d) (t : DkAll K H n xs ds) : DkAll K H n (x :: xs) (d :: ds) :=
  ⟨by rw [List.length_cons, List.length_cons, t.1], fun i u v hu hv => match i, hu, hv with
    | 0, hu, hv => by cases hu; cases hv; exact h
    | i + 1, hu, hv => t.2 i u v hu hv⟩
theorem DkAll.tup {K : PySem.W.Frag} {H : Hp} {n : Nat} {xs : List V} {ds : List PyData} {a : Addr} (t : DkAll K H n xs ds) (h : SqT K H a xs) (z : Nat.ble xs.length 100000 = true := by rfl) : Dk K H (n + 1) (.ref a) (.tuple ds) := .tup h t.1 (Nat.le_of_ble_eq_true z) t.2
theorem DkAll.lst {K : PySem.W.Frag} {H : Hp} {n : Nat} {xs : List V} {ds : List PyData} {a : Addr} (t : DkAll K H n xs ds) (h : H a = some (.lst xs)) (z : Nat.ble xs.length 100000 = true := by rfl) : Dk K H (n + 1) (.ref a) (.list ds) := .lst h t.1 (Nat.le_of_ble_eq_true z) t.2
/-- the data of a fraction, of a juice -/
def dq (q : Rat) : PyData := .tuple [.int q.num, .int (q.den : Int)]
def dj (s w : Rat) : PyData := .tuple [dq s, dq w]
theorem FrQ.dk {K : PySem.W.Frag} {H : Hp} {x : Addr} {q : Rat} (h : FrQ K H x q) (n : Nat := 0) : Dk K H (n + 2) (.ref x) (dq q) := DkAll.tup (.cons (.int _ _) (.cons (.int _ _) .nil)) h
theorem JuQ.dk {K : PySem.W.Frag} {H : Hp} {x : Addr} {s w : Rat} (h : JuQ K H x s w) (n : Nat := 0) : Dk K H (n + 3) (.ref x) (dj s w) := by
  obtain ⟨a, b, h1, h2, h3⟩ := h
  exact DkAll.tup (.cons (h2.dk n) (.cons (h3.dk n) .nil)) h1
/-- forty figures -/
theorem b133 {n : Nat} (h : n < 10 ^ 40) : n < 2 ^ 133 := Nat.lt_trans h (by decide)
/-- a fraction or None -/
def OQ (K : PySem.W.Frag) (H : Hp) (v : V) : Option Rat → Prop
  | none => v = .non
  | some q => ∃ x, v = .ref x ∧ FrQ K H x q
theorem OQ.same {K : PySem.W.Frag} {H H' : Hp} {v : V} {o : Option Rat} (h : OQ K H v o) (e : Same H H') : OQ K H' v o := by
  cases o with
  | none => exact h
  | some q =>
    obtain ⟨x, e1, h1⟩ := h
    exact ⟨x, e1, h1.same e⟩
def oq : Option Rat → PyData
  | none => .none
  | some q => dq q
theorem OQ.dk {K : PySem.W.Frag} {H : Hp} {v : V} {o : Option Rat} (h : OQ K H v o) (n : Nat := 0) : Dk K H (n + 2) v (oq o) := by
  cases o with
  | none => rw [show v = .non from h]; exact .non _
  | some q =>
    obtain ⟨x, e1, h1⟩ := h
    rw [e1]
    exact h1.dk n
/-- the strength of a juice -/
def stren (s w : Rat) : Option Rat := if s + w = 0 then none else some (s / (s + w))
theorem stren_part {s w t : Rat} (h : t ≠ 0) : stren (s * t) (w * t) = stren s w := by
  unfold stren
  by_cases c : s + w = 0
  · rw [if_pos c, if_pos (by grind)]
  · rw [if_neg c, if_neg (by grind)]
    congr 1
    grind
theorem stren_more {s w t : Rat} (h : 0 ≤ t) : stren (s + s * t) (w + w * t) = stren s w := by
  have e1 : s + s * t = s * (1 + t) := by grind
  have e2 : w + w * t = w * (1 + t) := by grind
  rw [e1, e2]
  exact stren_part (by grind)
theorem strength_between {s w x y : Rat} (hs : 0 ≤ s) (hw : 0 ≤ w) (hx : 0 ≤ x) (hy : 0 ≤ y) (h1 : s + w ≠ 0) (h2 : x + y ≠ 0) (le : s / (s + w) ≤ x / (x + y)) :
    s / (s + w) ≤ (s + x) / (s + x + (w + y)) ∧ (s + x) / (s + x + (w + y)) ≤ x / (x + y) := by
  have p1 : 0 < s + w := by grind
  have p2 : 0 < x + y := by grind
  have p3 : 0 < s + x + (w + y) := by grind
  generalize ea : s / (s + w) = a at *
  generalize eb : x / (x + y) = b at *
  have sa : s = a * (s + w) := by grind
  have xb : x = b * (x + y) := by grind
  have d : 0 ≤ b - a := by grind
  constructor
  · refine le_div p3 ?_
    have k := Rat.mul_nonneg d (Rat.le_of_lt p2)
    grind
  · refine div_le p3 ?_
    have k := Rat.mul_nonneg d (Rat.le_of_lt p1)
    grind
theorem is_zero {q : Rat} : decide (q.num = 0 ∧ (q.den : Int) = 1) = decide (q = 0) := by
  rw [decide_eq_decide]
  constructor
  · rintro ⟨h, _⟩
    exact num_zero.mp h
  · rintro rfl
    exact ⟨rfl, rfl⟩
/-- boiling -/
def wat (s u : Rat) : Rat := s / u - s
def boil (s w : Rat) (f : Int) (u h : Rat) : Rat := if wat s u < w then (if w - f * h < wat s u then wat s u else w - f * h) else w
theorem rq_wat (s u : Rat) (hu : u ≠ 0) : rq (s.num * ((u.den : Int) - u.num)) (s.den * u.num) = wat s u := by
  have e1 := rat_nd s
  have e2 := rat_nd u
  have h1 := den_ne s
  have h2 := den_ne u
  have h3 := int_ne (num_ne hu)
  unfold rq wat
  rw [Rat.intCast_mul, Rat.intCast_mul, Rat.intCast_sub]
  generalize ((s.den : Int) : Rat) = d at *
  generalize (s.num : Rat) = n at *
  generalize ((u.den : Int) : Rat) = d2 at *
  generalize (u.num : Rat) = n2 at *
  rw [← e1, ← e2]
  grind
theorem Sz.add {m n : Nat} {p q : Rat} (h : Sz m p) (k : Sz n q) : Sz (m + n + 1) (p + q) := by
  rw [← rq_add]
  exact sz_rq (Int.mul_ne_zero (den_ne' p) (den_ne' q)) (lt_up (add_lt (wide_lt h.1 k.2) (lt_up (wide_lt k.1 h.2) (by omega : n + m ≤ m + n))) (by omega)) (lt_up (wide_lt h.2 k.2) (by omega))
theorem Sz.sub {m n : Nat} {p q : Rat} (h : Sz m p) (k : Sz n q) : Sz (m + n + 1) (p - q) := by
  rw [← rq_sub]
  exact sz_rq (Int.mul_ne_zero (den_ne' p) (den_ne' q)) (lt_up (sub_lt (wide_lt h.1 k.2) (lt_up (wide_lt k.1 h.2) (by omega : n + m ≤ m + n))) (by omega)) (lt_up (wide_lt h.2 k.2) (by omega))
theorem Sz.mul {m n : Nat} {p q : Rat} (h : Sz m p) (k : Sz n q) : Sz (m + n) (p * q) := by
  rw [← rq_mul]
  exact sz_rq (Int.mul_ne_zero (den_ne' p) (den_ne' q)) (wide_lt h.1 k.1) (wide_lt h.2 k.2)
theorem Sz.wat {m n : Nat} {s u : Rat} (h : Sz m s) (k : Sz n u) (hu : u ≠ 0) : Sz (m + n + 1) (wat s u) := by
  rw [← rq_wat s u hu]
  exact sz_rq (Int.mul_ne_zero (den_ne' s) (num_ne hu)) (lt_up (wide_lt h.1 (sub_lt k.2 k.1)) (by omega)) (lt_up (wide_lt h.2 k.1) (by omega))
theorem Sz.boil {a b c n N : Nat} {s w u h : Rat} {f : Int} (zs : Sz a s) (zu : Sz n u) (hu : u ≠ 0) (zw : Sz b w) (zh : Sz c h) (hf : f.natAbs < 2 ^ 14) (h1 : a + n + 1 ≤ N) (h2 : b + (14 + c) + 1 ≤ N) : Sz N (KR.boil s w f u h) := by
  unfold KR.boil
  split
  · split
    · exact (Sz.wat zs zu hu).up h1
    · exact (Sz.sub zw (Sz.mul (Sz.int hf (by decide)) zh)).up h2
  · exact zw.up (by omega)
theorem boil_zero {s w u : Rat} {f : Int} : boil s w f u 0 = w := by
  unfold boil
  rw [Rat.mul_zero]
  split <;> grind
theorem boil_boil {s w u h k : Rat} {f : Int} (hf : 0 ≤ f) (hh : 0 ≤ h) (hk : 0 ≤ k) : boil s (boil s w f u h) f u k = boil s w f u (h + k) := by
  have f0 := cast_nn hf
  have a0 := Rat.mul_nonneg f0 hh
  have b0 := Rat.mul_nonneg f0 hk
  unfold boil
  rw [Rat.mul_add]
  generalize (f : Rat) * h = a at *
  generalize (f : Rat) * k = b at *
  generalize wat s u = L
  grind
theorem boil_fire {s w u h : Rat} {f g : Int} (hf : f ≤ g) (hh : 0 ≤ h) : boil s w g u h ≤ boil s w f u h := by
  have k := Rat.mul_nonneg (cast_nn (show 0 ≤ g - f by omega)) hh
  rw [Rat.intCast_sub] at k
  unfold boil
  generalize wat s u = L
  have e : ((g : Rat) - (f : Rat)) * h = (g : Rat) * h - (f : Rat) * h := by grind
  rw [e] at k
  generalize (f : Rat) * h = a at *
  generalize (g : Rat) * h = b at *
  grind
theorem boil_two {s w u h : Rat} {f : Int} : boil (s + s) (w + w) (2 * f) u h = boil s w f u h + boil s w f u h := by
  unfold boil
  have e : wat (s + s) u = wat s u + wat s u := by
    unfold wat
    grind
  rw [e, Rat.intCast_mul]
  have e2 : ((2 : Int) : Rat) * (f : Rat) * h = (f : Rat) * h + (f : Rat) * h := by
    have e3 : ((2 : Int) : Rat) = 2 := rfl
    rw [e3]
    grind
  rw [e2]
  generalize (f : Rat) * h = a at *
  generalize wat s u = L at *
  grind
theorem Sz.div {m n : Nat} {p q : Rat} (h : Sz m p) (k : Sz n q) (hq : q ≠ 0) : Sz (m + n) (p / q) := by
  rw [← rq_div]
  exact sz_rq (Int.mul_ne_zero (den_ne' p) (num_ne hq)) (wide_lt h.1 k.2) (wide_lt h.2 k.1)
theorem rq_divi (r : Rat) (f : Int) : rq r.num (r.den * f) = r / (f : Rat) := by
  have e := rq_div r (f : Rat)
  rw [← e]
  show rq r.num (r.den * f) = rq (r.num * 1) (r.den * f)
  rw [Int.mul_one]
theorem FrQ.dp {K : PySem.W.Frag} {H : Hp} {x : Addr} {q : Rat} (h : FrQ K H x q) : Dp K H (.ref x) (dq q) := .tup h (.cons (.int _) (.cons (.int _) .nil))
theorem JuQ.dp {K : PySem.W.Frag} {H : Hp} {x : Addr} {s w : Rat} (h : JuQ K H x s w) : Dp K H (.ref x) (dj s w) := by
  obtain ⟨a, b, h1, h2, h3⟩ := h
  exact .tup h1 (.cons h2.dp (.cons h3.dp .nil))
theorem eqv_dq (a b : Rat) : PyData.eqv (dq a) (dq b) = decide (a = b) := by
  refine eqv_pair.trans ?_
  rw [decide_eq_decide]
  constructor
  · rintro ⟨h1, h2⟩
    exact Rat.ext h1 (by omega)
  · rintro rfl
    exact ⟨rfl, rfl⟩
theorem OQ.dp {K : PySem.W.Frag} {H : Hp} {v : V} {o : Option Rat} (h : OQ K H v o) : Dp K H v (oq o) := by
  cases o with
  | none => rw [show v = .non from h]; exact .non
  | some q =>
    obtain ⟨x, e1, h1⟩ := h
    rw [e1]
    exact h1.dp
theorem oq_fit (o : Option Rat) : PyData.canLay0 (oq o) = true ∧ PyData.depth (oq o) ≤ 60 := by
  cases o with
  | none => exact ⟨rfl, by decide⟩
  | some q => exact ⟨rfl, by show 1 ≤ 60; decide⟩
/-- when a juice is ready -/
def ready (s w : Rat) (f : Int) (u : Rat) : Option Rat := if s = 0 then none else if wat s u < w then (if f = 0 then none else some ((w - wat s u) / (f : Rat))) else some 0
theorem wat_nn {s u : Rat} (hs : 0 ≤ s) (u0 : 0 < u) (u1 : u < 1) : 0 ≤ wat s u := by
  have k := Rat.mul_nonneg hs (show 0 ≤ 1 - u by grind)
  have h : s ≤ s / u := le_div u0 (by grind)
  unfold wat
  grind
theorem on_way {s w u : Rat} {f : Int} (hs : 0 < s) (u0 : 0 < u) (u1 : u < 1) (hf : 0 < f) (lt : wat s u < w) {t : Rat} (et : t = (w - wat s u) / (f : Rat)) :
    boil s w f u t = wat s u ∧ stren s (wat s u) = some u ∧ 0 < t ∧ ∀ h : Rat, 0 < h → (boil s w f u (t + h) = wat s u ∧ (h ≤ 1 → ∃ q, stren s (boil s w f u (t * h)) = some q ∧ (q = u ↔ h = 1) ∧ ready s (boil s w f u (t * h)) f u = some (t - t * h))) := by
  have f0 := cast_pos hf
  have fne : (f : Rat) ≠ 0 := by grind
  have ft : (f : Rat) * t = w - wat s u := by rw [et]; grind
  have wn := wat_nn (Rat.le_of_lt hs) u0 u1
  have tp : 0 < t := by
    rw [et]
    exact (Rat.lt_div_iff f0).mpr (by grind)
  refine ⟨?_, ?_, tp, fun h hh => ⟨?_, fun h1 => ?_⟩⟩
  · unfold boil
    rw [ft]
    grind
  · have e : s + wat s u = s / u := by
      unfold wat
      grind
    have ne : s / u ≠ 0 := by grind
    unfold stren
    rw [e, if_neg ne]
    congr 1
    grind
  · have k := Rat.mul_pos f0 hh
    unfold boil
    rw [Rat.mul_add, ft]
    grind
  · have d : 0 < w - wat s u := by grind
    have k := Rat.mul_nonneg (Rat.le_of_lt d) (show 0 ≤ 1 - h by grind)
    have e : (f : Rat) * (t * h) = (w - wat s u) * h := by rw [← ft]; grind
    have eb : boil s w f u (t * h) = w - (w - wat s u) * h := by
      unfold boil
      rw [e]
      grind
    have xge : wat s u ≤ w - (w - wat s u) * h := by grind
    have sx : s + (w - (w - wat s u) * h) ≠ 0 := by grind
    rw [eb]
    refine ⟨s / (s + (w - (w - wat s u) * h)), if_neg sx, ⟨fun q => ?_, fun q => ?_⟩, ?_⟩
    · have q2 : s = u * (s + (w - (w - wat s u) * h)) := by grind
      have q3 : wat s u = w - (w - wat s u) * h := by
        unfold wat at *
        grind
      have q4 : (w - wat s u) * (1 - h) = 0 := by grind
      have q5 : 1 - h = 0 := by
        rcases Rat.mul_eq_zero.mp q4 with z | z
        · grind
        · exact z
      grind
    · rw [q]
      have e2 : s + (w - (w - wat s u) * 1) = s / u := by
        unfold wat
        grind
      rw [e2]
      grind
    · unfold ready
      rw [if_neg (by grind)]
      by_cases c : wat s u < w - (w - wat s u) * h
      · rw [if_pos c, if_neg (by omega)]
        congr 1
        rw [et]
        grind
      · rw [if_neg c]
        have q4 : (w - wat s u) * (1 - h) = 0 := by grind
        have q5 : 1 - h = 0 := by
          rcases Rat.mul_eq_zero.mp q4 with z | z
          · grind
          · exact z
        have q6 : h = 1 := by grind
        rw [q6]
        congr 1
        grind
/-- a thing is not among those of a tuple -/
def rNoTup (K : PySem.W.Frag) : R2 := fun x y H Q => ∃ d ds, Dp K H x d ∧ Dp K H y (.tuple ds) ∧ PyData.canLay0 d = true ∧ PyData.canLayAll0 ds = true ∧ PyData.depth d ≤ 60 ∧ Q (.bl (!ds.any fun z => PyData.eqv z d)) H
theorem notTup {X : Cx} {K : PySem.W.Frag} (hK : X.K = K) (room : X.A.units + 64 < cLine) : OpR X (compareOp .NotIn) (rNoTup K) := by
  subst hK
  intro pn s0 σ H x y v1 v2 Q I a1 a2 h
  obtain ⟨d, ds, h1, h2, h3, h4, h5, q⟩ := h
  obtain ⟨as1, r1⟩ := Dp.reads I d x v1 h1 a1
  obtain ⟨as2, r2⟩ := Dp.reads I (.tuple ds) y v2 h2 a2
  exact SeqAt.notIn_tuple_reads r2 r1 h4 h3 (by omega) ⟨.bl _, H, I, rfl, q⟩
/-- a juice in, a juice and a share in, two juices in -/
def sp_j2 (K : PySem.W.Frag) : Sp := fun vs H Q _ => ∃ (x y : Addr) (s w s' w' : Rat) (m n : Nat), vs = [.ref x, .ref y] ∧ JuQ K H x s w ∧ JuQ K H y s' w' ∧ Sz m s ∧ Sz m w ∧ Sz n s' ∧ Sz n w' ∧ m + n ≤ 1900 ∧
  ∀ z H', Same H H' → JuQ K H' z (s + s') (w + w') → Sz (m + n + 1) (s + s') → Sz (m + n + 1) (w + w') → Q (.ref z) H'
def sp_jt (K : PySem.W.Frag) (f : Rat → Rat) : Sp := fun vs H Q _ => ∃ (x y : Addr) (s w t : Rat) (m n : Nat), vs = [.ref x, .ref y] ∧ JuQ K H x s w ∧ FrQ K H y t ∧ Sz m s ∧ Sz m w ∧ Sz n t ∧ m + n ≤ 900 ∧ n ≤ 400 ∧
  ∀ z H', Same H H' → JuQ K H' z (s * f t) (w * f t) → Sz (m + n + 10) (s * f t) → Sz (m + n + 10) (w * f t) → Q (.ref z) H'
def sp_vol (K : PySem.W.Frag) : Sp := fun vs H Q _ => ∃ (x : Addr) (s w : Rat) (m : Nat), vs = [.ref x] ∧ JuQ K H x s w ∧ Sz m s ∧ Sz m w ∧ m ≤ 900 ∧ ∀ z H', Same H H' → FrQ K H' z (s + w) → Sz (m + m + 1) (s + w) → Q (.ref z) H'
def sp_str (K : PySem.W.Frag) : Sp := fun vs H Q _ => ∃ (x : Addr) (s w : Rat) (m : Nat), vs = [.ref x] ∧ JuQ K H x s w ∧ Sz m s ∧ Sz m w ∧ m ≤ 600 ∧ ∀ v H', Same H H' → OQ K H' v (stren s w) → (∀ q, stren s w = some q → Sz (3 * m + 2) q) → Q v H'
end KR
/-! ### a caught exception that is kept behind its suite -/
namespace KR
open PySem PySem.Spec PyProof.Rows L2
/-- an exception that was caught, at a: its class, its own dict -/
def ExK (cls : Value) (d : Option Addr) (a : Addr) : HO := .ext fun g => ∃ (ob : Obj) (fs : Array Value), g.get? a = some ob ∧ Zc cls d ob ∧ ob.data = .fields fs
theorem exK_ok {P : Program} {w : World} {H : Hp} {g : Heap} {a : Addr} {cls : Value} {d : Option Addr} {ob : Obj} {fs : Array Value} (e : g.get? a = some ob) (z : Zc cls d ob) (k : ob.data = .fields fs) : ObjOk P w H g a (ExK cls d a) :=
  ⟨⟨ob, fs, e, z, k⟩, ⟨ob, e⟩, fun _ _ ⟨o, v, q, r⟩ m => ⟨o, v, m o q, r⟩⟩
/-- on with the object told -/
def wKeep (K : PySem.W.Frag) (c : Value) (i : Nat) (ts : Addr → Value → Option Addr → TS) (Wo : WX) (D : Ends) : WX := fun cls d σ H =>
  ∃ hit, PySem.W.exmOne K cls c = some hit ∧
    (hit = true → ∀ a, H a = none → ts a cls d { D with nx := fun τ G => D.nx (τ.set i none) (upd G a (ExK cls d a)), bk := fun τ G => D.bk (τ.set i none) G, ct := fun τ G => D.ct (τ.set i none) G } (σ.set i (some (.ref a))) H) ∧
    (hit = false → Wo cls d σ H)
section
variable {X : Cx} {pins : List (Addr × Obj)} {σ : L2.St} {H : Hp} {s : Shared}
/-- an object that nobody tracks, new since the entry, is tracked from now on -/
theorem Inv.track {a : Addr} {o : HO} (I : Inv X pins σ H s) (na : H a = none) (old : a ∈ X.ex ∨ X.s_0.heap.get? a = none) (nL : a ≠ X.env.locals) (nC : ∀ z c, X.env.cells.lookup z = some c → c ≠ a)
    (nP : ∀ p ∈ X.pn ++ pins, p.1 ≠ a) (new : ObjOk X.prog X.w (upd H a o) s.heap a o) : Inv X pins σ (upd H a o) s := by
  refine ⟨I.ok, I.os, I.bare, ⟨I.base.keep, I.base.slot, ?_, I.base.there, ?_, ?_, ?_⟩, I.loc, I.cell, ?_, ?_, ?_, ?_, I.len⟩
  · intro b ob e1 e2 e3
    have ne : b ≠ a := fun z => by
      rw [z] at e1 e3
      rcases old with q | q
      · exact e3 q
      · rw [q] at e1
        cases e1
    rw [upd_ne ne]
    exact I.base.free b ob e1 e2 e3
  · intro b xs e
    have e' := I.base.tups b xs e
    rw [upd_ne (ne_of_none e' na)]
    exact e'
  · intro b ob u e
    have e' := I.base.frzs b ob u e
    rw [upd_ne (ne_of_none e' na)]
    exact e'
  · intro b ps e
    obtain ⟨more, e'⟩ := I.base.tbls b ps e
    refine ⟨more, ?_⟩
    rw [upd_ne (ne_of_none e' na)]
    exact e'
  · rw [upd_ne (Ne.symm nL)]
    exact I.free
  · intro z c e
    rw [upd_ne (nC z c e)]
    exact I.freeC z c e
  · intro p hp
    obtain ⟨h1, h2, h3, h4, h5⟩ := I.pin p hp
    refine ⟨h1, ?_, h3, h4, h5⟩
    rw [upd_ne (nP p hp)]
    exact h2
  · intro b u e
    by_cases z : b = a
    · subst z
      rw [upd_same] at e
      cases e
      exact new
    · rw [upd_ne z] at e
      refine (I.hok b u e).stay (fun _ _ _ g => g) (fun c g => ?_) fun c xs g => ?_
      · rw [upd_ne (ne_of_none g na)]
        exact g
      · rw [upd_ne (ne_of_none g na)]
        exact g
end
section
variable {X : Cx} {x n : Str} {c : Value} {i : Nat} {body suite : List Stmt} {b0 : Stmt} {p1 p2 p3 : Pos} {tb : WX → TS} {ts : Addr → Value → Option Addr → TS} {Wo : WX}
/-- try .. except x as n: what the suite keeps of the exception may be asked behind it -/
theorem ps_try_keep (stk : X.stack = X.env :: X.outer) (frm : X.env.frame = some X.env.locals) (nd : X.N.Nodup) (sl : X.N[i]? = some n) (kn : X.env.kindOf n = some .local) (nm : Names X x c) (out : Takes X Wo)
    (hbody : ∀ (W : WX) (pn : List (Addr × Obj)) (xe : Value → Shared → Prop), Takes (X.tr pn xe) W → PassesOwn (model X.prog X.w) X.A X.env xe → PSs (X.tr pn xe) body (tb W))
    (hsuite : ∀ (a : Addr) (ob : Obj) (cls : Value) (d : Option Addr) (pn : List (Addr × Obj)), Zc cls d ob → (∃ fs, ob.data = .fields fs) → PSs (X.suite a ((a, ob) :: pn)) (b0 :: suite) (ts a cls d)) :
    PS X (.Try body [.ExceptHandler (some (.Name x p1)) (some n) (b0 :: suite) p2] [] [] p3) (fun D σ H => tb (wKeep X.K c i ts Wo D) D σ H) := by
  constructor
  intro pins s σ H D I ask
  have fine := I.ok
  have frames : X.A.frames = some (X.env :: X.outer) := by rw [fine.frames, stk]
  have place : Loc X.env.scope n := .inl kn
  refine wpAny_Try_except ?_
  refine wpAny_mono ((hbody (wKeep X.K c i ts Wo D) (X.pn ++ pins) (fun e t1 => wpAny (model X.prog X.w) X.A (noteFrame e X.env) (fun _ t2 => wpAny (model X.prog X.w) X.A (setFlight e none) (fun _ t3 =>
    wpAny (model X.prog X.w) X.A (handleBy e X.env [.ExceptHandler (some (.Name x p1)) (some n) (b0 :: suite) p2]) (SP X pins D) X.xe t3) X.xe t2) X.xe t1) (fun v t0 air => ?caught) PassesOwn.looking).run [] s σ H D (I.toTry _) ask) (fun f s1 sp => ?done) (fun _ _ h => h)
  case done =>
    cases f with
    | next =>
      obtain ⟨τ, G, J, more⟩ := sp
      exact wpAny_execs_nil ⟨τ, G, J.ofTry fine, more⟩
    | brk =>
      obtain ⟨τ, G, J, more⟩ := sp
      exact ⟨τ, G, J.ofTry fine, more⟩
    | cont =>
      obtain ⟨τ, G, J, more⟩ := sp
      exact ⟨τ, G, J.ofTry fine, more⟩
    | ret u =>
      obtain ⟨v, τ, G, J, rel, more⟩ := sp
      exact ⟨v, τ, G, J.ofTry fine, rel, more⟩
  case caught =>
    obtain ⟨a, B, sB, ps, τ, G, cls, d, rfl, J0, ground, up0, sky, na, os, bare, hit, eHit, yes, no⟩ := air
    have J : Inv X pins τ G sB := J0.ofTry fine
    have sky1 : Sky B (X.env :: X.outer) a (Zc cls d) X.env.locals t0.heap := by rw [← stk]; exact sky
    show wpAny (model X.prog X.w) X.A (noteFrame (.ref a) X.env) _ _ _
    refine Sky.land Zc.steady frames frm sky1 fun g1 fly1 up1 => ?_
    obtain ⟨ob1, fs1, at_1, z1, d1⟩ := fly1.there
    have noFrame : a ∉ frs (X.env :: X.outer) := fun m => by
      obtain ⟨_, o2, e2, bad⟩ := fly1.2.2.1.mem m
      rw [at_1] at e2
      cases e2
      exact bad _ d1
    have nL : a ≠ X.env.locals := fun z => noFrame (List.mem_filterMap.mpr ⟨X.env, List.mem_cons_self, by rw [frm, z]⟩)
    have nF : a ∉ X.fs := fun m => by
      obtain ⟨e, he, q⟩ := List.mem_filterMap.mp m
      exact noFrame (List.mem_filterMap.mpr ⟨e, List.mem_cons_of_mem _ he, q⟩)
    -- the object is new since the entry
    have fresh : sB.heap.get? a = none := by
      cases e : sB.heap.get? a with
      | none => rfl
      | some o =>
        have inB := ground a o e (by rw [stk]; exact noFrame)
        rw [fly1.2.1] at inB
        cases inB
    have old : a ∈ X.ex ∨ X.s_0.heap.get? a = none := by
      by_cases ex : a ∈ X.ex
      · exact .inl ex
      · right
        cases e : X.s_0.heap.get? a with
        | none => rfl
        | some o =>
          obtain ⟨o2, e2⟩ := J.base.there a o e ex
          rw [fresh] at e2
          cases e2
    have J1 : Inv X pins τ G { t0 with heap := g1 } := J.landed ground fly1.1 (up0.trans up1) os bare
    have inner := J1.suite at_1 d1 na nL nF
    refine wpAny_handleBy_cons (codeAny_handlers_test ?_) (by intro q; cases q)
    have kind : PySem.W.Looks (model X.prog X.w) g1 (typeOf (.ref a)) cls := fun _ _ _ _ k q => wpAny_typeOf_ref (k _ _ at_1) (by rw [z1.1]; exact q)
    have match_ := PySem.W.exm_one (M := model X.prog X.w) J1.kIn kind eHit
    have named : ∀ {R : Value → Shared → Prop} {E : Value → Shared → Prop}, R c { t0 with heap := g1 } → wpAny (model X.prog X.w) (X.A.mark (some (.ref a))) (eval (.Name x p1) X.env) R E { t0 with heap := g1 } := fun {R E} r => by
      obtain ⟨u1, u2, u3 | ⟨u3, u4, u5⟩⟩ := nm
      · exact ld_glob (X := X.suite a ((a, ob1) :: (X.pn ++ pins))) inner u1 u3 r u2
      · exact ld_blt (X := X.suite a ((a, ob1) :: (X.pn ++ pins))) inner u1 u3 u4 r u5 u2
    refine named (match_.here ?_)
    have noPin : ∀ p ∈ X.pn ++ pins, p.1 ≠ a := fun p hp z => by
      have q := (J.pin p hp).1
      rw [z, fresh] at q
      cases q
    have noCell : ∀ z c, X.env.cells.lookup z = some c → c ≠ a := fun z c e q => by
      obtain ⟨v, o, e1, _⟩ := J.cell z c e
      rw [q, fresh] at e1
      cases e1
    cases hit with
    | true =>
      refine codeAny_handlers_suite_as ?_
      refine HandSPX.lands_againZ fly1 fun g2 fly2 up2 => ?_
      obtain ⟨ob2, fs2, at_2, z2, d2⟩ := fly2.there
      have J2 : Inv X pins τ G { t0 with heap := g2 } := J.landed ground fly2.1 ((up0.trans up1).trans up2) os bare
      have within := J2.suite at_2 d2 na nL nF
      refine store_ok (X := X.suite a ((a, ob2) :: (X.pn ++ pins))) (v := .ref a) within nd sl place rfl (fun t3 J3 => ?_) (.inr kn)
      refine wpAny_mono ((hsuite a ob2 cls d (X.pn ++ pins) z2 ⟨_, d2⟩).run [] t3 _ G _ J3 (yes rfl a na)) (fun f t4 sp => ?_) (fun _ _ z => False.elim z)
      have leave : ∀ {τ4 : L2.St} {G4 : Hp} {R : Shared → Prop}, Inv (X.suite a ((a, ob2) :: (X.pn ++ pins))) [] τ4 G4 t4 → (∀ t5, Inv (X.suite a ((a, ob2) :: (X.pn ++ pins))) [] (τ4.set i none) G4 t5 → R t5) →
          wpAny (model X.prog X.w) X.A (do bindName X.env n .none; unbindBehindTheSuite X.env n p2) (fun _ t5 => R t5) X.xe t4 := fun {τ4 G4 R} J4 r =>
        gone_ok (X := X.suite a ((a, ob2) :: (X.pn ++ pins))) J4 nd sl kn r
      cases f with
      | next =>
        obtain ⟨τ4, G4, J4, more⟩ := sp
        refine leave J4 fun t5 J5 => ?_
        obtain ⟨k1, k2, _⟩ := J5.pin (a, ob2) (List.mem_append_left _ List.mem_cons_self)
        have J6 := J5.unsuite fine
        exact ⟨_, _, Inv.track J6 k2 old nL noCell noPin (exK_ok k1 z2 d2), more⟩
      | brk =>
        obtain ⟨τ4, G4, J4, more⟩ := sp
        exact leave J4 fun t5 J5 => ⟨_, _, J5.unsuite fine, more⟩
      | cont =>
        obtain ⟨τ4, G4, J4, more⟩ := sp
        exact leave J4 fun t5 J5 => ⟨_, _, J5.unsuite fine, more⟩
      | ret u =>
        obtain ⟨v, τ4, G4, J4, rel, more⟩ := sp
        exact leave J4 fun t5 J5 => ⟨_, _, _, J5.unsuite fine, rel, more⟩
    | false =>
      show wpAny _ X.A (handleBy (.ref a) X.env []) _ _ _
      refine wpAny_handleBy_nil ?_
      obtain ⟨_, _, _, o3, v3, T3, l3, w3, in3, z3, data3, slot3, _⟩ := id fly1
      unfold PySem.passOn
      refine wpAny_bind (wpAny_field in3 data3 slot3 ?_)
      have ref3 : ¬ ((Value.ref T3 == Value.none) = true) := by simp
      rw [if_neg ref3]
      have throw3 : wpAny (model X.prog X.w) X.A (setFlight (.ref a) X.env.frame) (fun _ t4 => wpAny (model X.prog X.w) X.A (throw (.ref a) : Sem Flow) (SP X pins D) X.xe t4) X.xe { t0 with heap := g1 } := by
        rw [frm]
        refine HandSPX.setFlight_upZ fly1 fun g2 held2 up2 => wpAny_throw (out _ _ ?_)
        have sky2 : Sky B X.stack a (Zc cls d) X.env.locals g2 := .inr (.inr (by rw [stk]; exact held2))
        exact ⟨a, B, sB, pins, τ, G, cls, d, rfl, J, ground, (up0.trans up1).trans up2, sky2, na, os, bare, no rfl⟩
      first
        | exact wpAny_bind throw3
        | exact wpAny_bind (wpAny_pure (wpAny_bind throw3))
end
/-- what the written part says of a class whose objects are caught -/
structure ExcFacts (K : PySem.W.Frag) (C : Addr) : Prop where
  cl : (PySem.W.clsIn K C).isSome = true
  ga : PySem.W.findIn K (.ref C) "__getattribute__" = some (some (.builtin "BaseException.__getattribute__"))
  gg : PySem.W.findIn K (.ref C) "__getattr__" = some none
  sub : PySem.W.subIn K (.ref C) (.type "BaseException") = some true
  cls : PySem.W.findIn K (.ref C) "__class__" = some (some (.builtin "object.__class__"))
  get : PySem.W.specialIn K (.builtin "object.__class__") "__get__" = some (some (.builtin "getset_descriptor.__get__"))
  tak : PySem.W.takesIn K (.builtin "object.__class__") = some true
  obj : PySem.W.mroIn K C (.type "object") = some true
  dic : PySem.W.hasDictIn K C = true
  fld : PySem.W.findIn K (.ref C) "what" = some none
/-- which classes an exception's class stands under, by what the written part says of both -/
theorem kit_own {K : PySem.W.Frag} {C D : Addr} {b : Bool} (h1 : PySem.W.isClsIn K D = true) (h2 : PySem.W.typeIn K (.ref D) = some (.type "type")) (h3 : PySem.W.subIn K (.ref C) (.ref D) = some b) (h4 : PySem.W.subIn K (.ref C) (.ref C) = some true) : PySem.W.kitOne K (.ref C) (.ref D) = some b := by
  unfold PySem.W.kitOne
  by_cases e : (Value.ref C == Value.ref D) = true
  · rw [if_pos e]
    have e2 : Value.ref C = Value.ref D := eq_of_beq e
    rw [← e2, h4] at h3
    exact h3
  · rw [if_neg e]
    show (if ((PySem.W.clsIn K D).isSome && PySem.W.typeIn K (.ref D) == some (.type "type")) = true then PySem.W.subIn K (.ref C) (.ref D) else none) = some b
    have h1' : (PySem.W.clsIn K D).isSome = true := h1
    have e1 : ((PySem.W.clsIn K D).isSome && PySem.W.typeIn K (.ref D) == some (.type "type")) = true := by rw [h1', h2] <;> rfl
    rw [if_pos e1]
    exact h3
theorem kit_ve {K : PySem.W.Frag} {C : Addr} (h : PySem.W.subIn K (.ref C) (.type "ValueError") = some true) : PySem.W.kitOne K (.ref C) (.type "ValueError") = some true := by
  unfold PySem.W.kitOne
  rw [if_neg (by intro z; exact absurd (eq_of_beq z) (by intro y; cases y))]
  show (if PySem.W.kitMeta "ValueError" = true then PySem.W.subIn K (.ref C) (.type "ValueError") else none) = some true
  rw [if_pos (by decide +kernel)]
  exact h
theorem exm_own {K : PySem.W.Frag} {C D : Addr} {b : Bool} (h0 : PySem.W.subIn K (.ref D) (.type "BaseException") = some true) (h1 : PySem.W.isClsIn K D = true) (h2 : PySem.W.typeIn K (.ref D) = some (.type "type")) (h3 : PySem.W.subIn K (.ref C) (.ref D) = some b) : PySem.W.exmOne K (.ref C) (.ref D) = some b := by
  unfold PySem.W.exmOne
  have e0 : (PySem.W.subIn K (.ref D) (.type "BaseException") == some true) = true := by rw [h0] <;> rfl
  rw [if_pos e0]
  show (if ((PySem.W.clsIn K D).isSome && PySem.W.typeIn K (.ref D) == some (.type "type")) = true then PySem.W.subIn K (.ref C) (.ref D) else none) = some b
  have h1' : (PySem.W.clsIn K D).isSome = true := h1
  have e1 : ((PySem.W.clsIn K D).isSome && PySem.W.typeIn K (.ref D) == some (.type "type")) = true := by rw [h1', h2] <;> rfl
  rw [if_pos e1]
  exact h3
/-- what an exception's own dict has: its class's name, what it was made with -/
def wh (nm : Str) (v : V) : List (Str × V) := [(("word" : Str), .str nm), (("what" : Str), v)]
/-- a caught one at a, its dict at d: the field what is v -/
structure Kept (K : PySem.W.Frag) (H : Hp) (a C d : Addr) (v : V) : Prop where
  F : ExcFacts K C
  ob : H a = some (ExK (.ref C) (some d) a)
  di : ∃ nm : Str, H d = some (.xd (wh nm v))
theorem Kept.same {K : PySem.W.Frag} {H G : Hp} {a C d : Addr} {v : V} (k : Kept K H a C d v) (s : Same H G) : Kept K G a C d v := ⟨k.F, s _ _ k.ob, k.di.imp fun _ e => s _ _ e⟩
section
variable {X : Cx} {pins : List (Addr × Obj)} {σ : L2.St} {H : Hp} {s : Shared}
theorem Kept.inst {a C d : Addr} {v : V} (k : Kept X.K H a C d v) (I : Inv X pins σ H s) : ∃ (nm : Str) (ob od : Obj) (m : Str → Option Value), PySem.W.InstAt s.heap a ob C (some od) ∧ s.heap.Ns1 d m ∧ s.heap.get? d = some od ∧ (∀ f, RelO (List.lookup f (wh nm v)) (m f)) := by
  obtain ⟨nm, kdi⟩ := k.di
  obtain ⟨⟨ob, fs, e, z, da⟩, _⟩ := (show ObjOk X.prog X.w H s.heap a (ExK (.ref C) (some d) a) from I.hok a _ k.ob)
  obtain ⟨m, ns, r⟩ := (show ObjOk X.prog X.w H s.heap d (.xd (wh nm v)) from I.hok d _ kdi)
  obtain ⟨od, ho, _⟩ := lookIn_ns ns
  exact ⟨nm, ob, od, m, ⟨e, z.1, by unfold PySem.W.notCls; rw [da] <;> rfl, by rw [z.2]; exact ho⟩, ns, ho, r⟩
end
/-- isinstance of a kept one: a class, a tuple of classes -/
def rIsX (K : PySem.W.Frag) : List V → Hp → VK → Prop := fun xs H Q => ∃ (a C d : Addr) (v k : V) (u : Value) (b : Bool), xs = [.ref a, k] ∧ Kept K H a C d v ∧ ClsV k u ∧ PySem.W.kitOne K (.ref C) u = some b ∧ Q (.bl b) H
def rIsXT (K : PySem.W.Frag) : List V → Hp → VK → Prop := fun xs H Q => ∃ (a C d tp : Addr) (v : V) (ks : List V) (us : List Value) (b : Bool), xs = [.ref a, .ref tp] ∧ Kept K H a C d v ∧ H tp = some (.tup ks) ∧ Paired ClsV ks us ∧ PySem.W.kitAny K (.ref C) us = some b ∧ Q (.bl b) H
section
variable {X : Cx} {K : PySem.W.Frag}
theorem isX (hK : X.K = K) : CallR X (.builtin "isinstance") (rIsX K) := by
  subst hK
  intro pins s σ H xs us Q I rel ⟨a, C, d, v, k, u, b, e, kp, kc, ko, q⟩
  subst e
  obtain ⟨w1, w2, e2, r1, r2⟩ := vals2 rel
  subst e2
  obtain rfl : w1 = Value.ref a := r1
  obtain rfl := kc.eq r2
  obtain ⟨nm, ob, od, m, inst, _⟩ := kp.inst I
  have kit := PySem.W.kitx_exc (x := a) (ox := ob) (od := some od) kp.F.cl kp.F.ga kp.F.gg kp.F.sub kp.F.cls kp.F.get kp.F.tak kp.F.obj
  exact PySem.W.kia_one kit I.kIn inst ko (fun z => nomatch z) fun tk => ⟨.bl b, H, I.tok tk, rfl, q⟩
theorem isXT (hK : X.K = K) : CallR X (.builtin "isinstance") (rIsXT K) := by
  subst hK
  intro pins s σ H xs us Q I rel ⟨a, C, d, tp, v, ks, cs, b, e, kp, ht, kc, ko, q⟩
  subst e
  obtain ⟨w1, w2, e2, r1, r2⟩ := vals2 rel
  subst e2
  obtain rfl : w1 = Value.ref a := r1
  obtain rfl : w2 = Value.ref tp := r2
  obtain ⟨nm, ob, od, m, inst, _⟩ := kp.inst I
  have kit := PySem.W.kitx_exc (x := a) (ox := ob) (od := some od) kp.F.cl kp.F.ga kp.F.gg kp.F.sub kp.F.cls kp.F.get kp.F.tak kp.F.obj
  obtain ⟨_, items, rv, o, at_o, c_o, len_o, data_o⟩ := (show ObjOk X.prog X.w H s.heap tp (.tup ks) from I.hok tp _ ht)
  obtain rfl := ClsV.all kc rv
  obtain ⟨oc, odict, odata, oslots⟩ := o
  simp only at c_o data_o
  subst c_o data_o
  exact PySem.W.kia_tup kit I.kIn inst at_o ko (fun z => nomatch z) fun tk => ⟨.bl b, H, I.tok tk, rfl, q⟩
/-- caught.what -/
def tWhat (K : PySem.W.Frag) (te : TE) : TE := fun σ H Q => te σ H fun x G => ∃ (a C d : Addr) (v : V), x = .ref a ∧ Kept K G a C d v ∧ Q v G
theorem pe_what {e : Expr} {te : TE} {pos : Pos} (hK : X.K = K) (he : PE X e te) (hb : attributeBase e "what" X.env (eval e X.env) = eval e X.env := by rfl) : PE X (.Attribute e "what" pos) (tWhat K te) := by
  subst hK
  constructor
  intro pins s σ H Q I ask
  refine attr_of hb (thn (he.run pins s σ H _ I ask) fun u t1 got => ?_)
  obtain ⟨x, G, J, rel, a, C, d, v, e1, kp, q⟩ := got
  subst e1
  obtain rfl : u = Value.ref a := rel
  obtain ⟨nm, ob, od, m, inst, ns, at_d, fs⟩ := kp.inst J
  obtain ⟨od2, at_d2, look⟩ := lookIn_ns ns
  rw [at_d] at at_d2
  obtain rfl := Option.some.inj at_d2
  have l1 : List.lookup ("what" : Str) (wh nm v) = some v := rfl
  obtain ⟨w, hw, rw_⟩ := RelO.some_of (v := v) (o := m "what") (by rw [← l1]; exact fs "what")
  have found := PySem.W.findObj_own (K := X.K) (C := C) (od := od) kp.F.dic kp.F.fld rfl (by rw [look, hw])
  exact HandSPX.exc_get J.kIn inst kp.F.ga kp.F.gg kp.F.sub found (handed_of rw_) ⟨v, G, J.tok _, rw_, q⟩
end
end KR
/-! ### the name of its class, which an exception keeps: self.word = self.__class__.__name__ -/
namespace PySem.W
open PySem PySem.Calls PySem.Spec PyProof.Rows Builtin Builtin.Getset_descriptor
section
variable {pg : Program} {wd : World} {Ar : Around} {Ex : Value → Shared → Prop} {sh : Shared} {Fg : Frag} {Rr : Result → Shared → Prop} {Cl z : Addr} {oz : Obj} {oy : Option Obj}
theorem own_dga (dv tv : Value) (b : Addr) : descrGetArgs ⟨[dv, .ref b, tv], []⟩ = pure (dv, some (.ref b), given tv) := by kernel_rfl
theorem own_name_get {tv : Value} {oc : Obj} {nm : Str} {tk : Tok} (at_C : sh.heap.get? Cl = some oc) (ty : oc.cls = .type "type") (sl : (oc.slots[2]?).join = some (.str nm tk)) (want : Rr (.ok (.ret (.str nm tk))) sh) :
    codeAny (model pg wd) Ar (.call (.builtin "getset_descriptor.__get__") ⟨[.builtin "type.__name__", .ref Cl, tv], []⟩) Rr sh := by
  obtain ⟨hh, g, dr, t, os⟩ := sh
  have K0 : Looks (model pg wd) hh (typeOf (.ref Cl)) (.type "type") := fun _ _ _ _ keep q => wpAny_typeOf_ref (keep _ _ at_C) (by rw [ty]; exact q)
  have K1 : Looks (model pg wd) hh (isSubtype (.type "type") (.type "type")) true := .of_pure (by rw [isSubtype_type] <;> kernel_rfl)
  refine codeAny_call_builtin KF.slot_gs.plain KF.entry_gs <| KF.slot_gs.check _ _ _ _ _ _ _ _ ktyn_type (KF.args_gs _ _ _) ?_
  unfold Builtin.«getset_descriptor.__get__» descrGet; rw [own_dga]; refine wpAny_bind <| wpAny_pure ?_
  unfold descrGetter descrCheckInstance descrNameAndClass isInstance; simp only [ktyn_owner]
  repeat lk
  refine ⟨Code.quiet_builtin _ (by decide +kernel), codeAny_builtin ktyn_entry ?_⟩
  unfold Builtin.«type.__name__»; dsimp only
  unfold keptObject slotAt; dsimp only
  refine wpAny_bind (wpAny_bind (wpAny_loadPart_at at_C (wpAny_pure ?_)))
  rw [sl]; dsimp only
  first
    | exact wpAny_pure want
    | exact wpAny_bind (wpAny_pure want)
    | exact wpAny_bind (wpAny_pure (wpAny_pure want))
theorem own_name {expr : Bool} {Q : Value → Shared → Prop} {oc : Obj} {nm : Str} {tk : Tok} (X : Fg.In sh.heap) (rd : readsIn Fg Cl (.type "type") = true) (fc : findCls Fg (.ref Cl) (.type "type") "__name__" = some (.get (.builtin "getset_descriptor.__get__") (.builtin "type.__name__") (.ref Cl) (.type "type")))
    (lk : Fg.lookup Cl = some oc) (ty : oc.cls = .type "type") (sl : (oc.slots[2]?).join = some (.str nm tk)) (want : ∀ u, Q (.str nm tk) { sh with toks := u }) : wpAny (model pg wd) Ar (getAttr (.ref Cl) "__name__" expr) Q Ex sh := by
  refine cls_read X rd fc ?_
  show wpAny _ _ (holding [Value.builtin "type.__name__"] (call (.builtin "getset_descriptor.__get__") [.builtin "type.__name__", .ref Cl, .type "type"]) >>= ret) _ _ _
  refine wpAny_bind <| wpAny_holding <| wpAny_call <| own_name_get (sh := { sh with toks := sh.toks + 1 }) (X _ _ lk) ty sl ?_
  exact wpAny_pure (handed_on rfl (want _))
theorem own_class {expr : Bool} {Q : Value → Shared → Prop} (X : Fg.In sh.heap) (I : InstAt sh.heap z oz Cl oy) (c1 : findIn Fg (.ref Cl) "__getattribute__" = some (some (.builtin "BaseException.__getattribute__"))) (c2 : findIn Fg (.ref Cl) "__getattr__" = some none)
    (c3 : subIn Fg (.ref Cl) (.type "BaseException") = some true) (c4 : (clsIn Fg Cl).isSome = true) (c5 : findIn Fg (.ref Cl) "__class__" = some (some (.builtin "object.__class__"))) (c6 : specialIn Fg (.builtin "object.__class__") "__get__" = some (some (.builtin "getset_descriptor.__get__")))
    (c7 : takesIn Fg (.builtin "object.__class__") = some true) (c8 : mroIn Fg Cl (.type "object") = some true) (want : ∀ u, Q (.ref Cl) { sh with toks := u }) : wpAny (model pg wd) Ar (getAttr (.ref z) "__class__" expr) Q Ex sh := by
  have fo : findObj Fg Cl oy "__class__" = some (.bind (.builtin "getset_descriptor.__get__") (.builtin "object.__class__")) := by
    cases oy with
    | none => exact findObj_dataN c4 c5 c6 c7
    | some ob => exact findObj_data c4 c5 c6 c7
  obtain ⟨hh, g, dr, t, os⟩ := sh
  have K0 := I.type (M := model pg wd)
  have K1 := looks_findIn (M := model pg wd) X c1
  have K2 := looks_findIn (M := model pg wd) X c2
  have K3 := looks_find (M := model pg wd) X I fo
  have below : Looks (model pg wd) hh (isInstance (.ref z) (.type "BaseException")) true := K0.andThen (looks_subIn X c3)
  have n0 : (expr && onTheHeap (Value.builtin "BaseException.__getattribute__")) = false := by cases expr <;> rfl
  have n1 : (Value.builtin "BaseException.__getattribute__" == Value.builtin "object.__getattribute__") = false := by decide +kernel
  have n2 : (onTheHeap (Value.ref Cl) && Value.builtin "BaseException.__getattribute__" == Value.builtin "object.__getattribute__") = false := by rw [n1] <;> rfl
  unfold getAttr getAttrBy
  refine wpAny_bind <| wpAny_mkText <| wpAny_holding <| wpAny_bind <| K0.at <| wpAny_bind <| K1.at ?_
  show wpAny _ _ (ite ((onTheHeap (Value.ref Cl) && Value.builtin "BaseException.__getattribute__" == Value.builtin "object.__getattribute__") = true) _ _) _ _ _
  rw [n2, if_neg Bool.false_ne_true]; unfold getAttrByItsOwn hookBefore; refine wpAny_bind ?_
  rw [if_pos (show onTheHeap (Value.ref Cl) = true from rfl)]; refine K2.at ?_; refine wpAny_bind <| wpAny_attempt <| wpAny_holding ?_
  unfold callGetattribute; rw [n0, if_neg Bool.false_ne_true]; unfold boundAndCalled; rw [PySem.F.excAttr_ValueError.ga.bind (.ref z)]; refine wpAny_bind <| wpAny_pure ?_
  show wpAny _ _ (call (.builtin "BaseException.__getattribute__") [.ref z, .str "__class__" t]) _ _ _
  refine wpAny_call <| codeAny_call_builtin PySem.F.excAttr_ValueError.ga.plain PySem.F.entry_bexc_ga ?_
  refine @check_slot (model pg wd) _ _ ⟨hh, g, dr, t + 1, os⟩ "BaseException.__getattribute__" "BaseException" "__getattribute__" (.ref z) [.str "__class__" t] [] _ (by decide +kernel) (by decide +kernel) below (PySem.F.args_bexc_ga (.ref z) (.str "__class__" t)) ?_
  unfold Builtin.«object.__getattribute__»; refine wpAny_bind <| wpAny_of_eq (a := ((Value.ref z : Value), [Value.str "__class__" t])) (by first | rfl | (simp only [slotArgs]; rfl)) ?_
  refine wpAny_bind <| wpAny_pure <| wpAny_bind <| K0.at <| wpAny_bind <| K3.at ?_
  show wpAny _ _ (holding [Value.builtin "object.__class__"] (call (.builtin "getset_descriptor.__get__") [.builtin "object.__class__", .ref z, .ref Cl]) >>= ret) _ _ _
  refine wpAny_bind <| wpAny_holding <| wpAny_call <| class_get (s := ⟨hh, g, dr, t + 1, os⟩) (ox := oz) (od := oy) X I c8 ?_
  refine wpAny_pure ?_
  show wpAny _ _ (handedOut (.ref Cl)) _ _ _
  rw [handedOut_of (v := .ref Cl) rfl]
  first
    | exact wpAny_pure (want _)
    | exact wpAny_pure (wpAny_pure (want _))
end
end PySem.W
namespace KR
open PySem PySem.Spec PyProof.Rows L2
/-- a class whose own name, kept since it was made, is nm -/
structure NmC (K : PySem.W.Frag) (C : Addr) (nm : Str) : Prop where
  ro : ∃ (oc : Obj) (tk : Tok), K.lookup C = some oc ∧ oc.cls = .type "type" ∧ (oc.slots[2]?).join = some (.str nm tk)
  rd : PySem.W.readsIn K C (.type "type") = true
  fw : PySem.W.findIn K (.ref C) "word" = some none
  fc : PySem.W.findCls K (.ref C) (.type "type") "__name__" = some (.get (.builtin "getset_descriptor.__get__") (.builtin "type.__name__") (.ref C) (.type "type"))
/-- self.__class__.__name__ of one that is being made -/
def tCnm (K : PySem.W.Frag) (to : TE) : TE := fun σ H Q => to σ H fun x H1 => ∃ (a C d : Addr) (fs : List (Str × V)) (nm : Str), x = .ref a ∧ ExcFacts K C ∧ NmC K C nm ∧ H1 a = some (exo a C (some d)) ∧ H1 d = some (exd d fs) ∧ Q (.str nm) H1
theorem pe_cnm {X : Cx} {o : Expr} {to : TE} {p1 p2 : Pos} (ho : PE X o to) (h1 : attributeBase o "__class__" X.env (eval o X.env) = eval o X.env := by rfl)
    (h2 : attributeBase (.Attribute o "__class__" p1) "__name__" X.env (eval (.Attribute o "__class__" p1) X.env) = eval (.Attribute o "__class__" p1) X.env := by rfl) : PE X (.Attribute (.Attribute o "__class__" p1) "__name__" p2) (tCnm X.K to) := by
  refine ⟨fun pins s σ H Q I ask => ?_⟩
  refine attr_of h2 (attr_of h1 (thn (ho.run pins s σ H _ I ask) fun u s1 got => ?_))
  obtain ⟨x, H1, J, rel, a, C, d, fs, nm, e1, F, N, ha, hd, q⟩ := got
  subst e1
  obtain rfl : u = Value.ref a := rel
  obtain ⟨t1, at_a⟩ := exo_at J.hok ha
  obtain ⟨mA, ns, _⟩ := exd_at J.hok hd
  obtain ⟨od, at_d, _⟩ := lookIn_ns ns
  obtain ⟨oc, tk, lk, ty, sl⟩ := N.ro
  refine PySem.W.own_class J.kIn (oy := some od) ⟨at_a, rfl, rfl, at_d⟩ F.ga F.gg F.sub F.cl F.cls F.get F.tak F.obj fun u1 => ?_
  exact PySem.W.own_name (J.tok u1).kIn N.rd N.fc lk ty sl fun u2 => ⟨.str nm, H1, J.tok u2, ⟨tk, rfl⟩, q⟩
/-- the dict of one that is being made, told twice -/
theorem upd_twice {H : Hp} {a d : Addr} {o1 o2 o3 : HO} (ne : d ≠ a) : upd (upd (upd H d o1) a o2) d o3 = upd (upd H d o3) a o2 := by
  funext b
  by_cases e1 : b = a
  · subst e1
    rw [upd_ne (Ne.symm ne), upd_same, upd_same]
  · by_cases e2 : b = d
    · subst e2
      rw [upd_same, upd_ne e1, upd_same]
    · rw [upd_ne e2, upd_ne e1, upd_ne e2, upd_ne e1, upd_ne e2]
/-- self.what = what; self.word = self.__class__.__name__ -/
theorem init_reads {K : PySem.W.Frag} {C a : Addr} {nm : Str} {v : V} {H : Hp} {D : Ends} (O : OexC K C) (F : ExcFacts K C) (N : NmC K C nm) (ha : H a = some (exo a C none)) (q : ∀ dx, H dx = none → dx ≠ a → D.nx [some (.ref a), some v] (upd (upd H dx (exd dx (wh nm v))) a (exo a C (some dx)))) :
    tSeq (tOst K "what" (tVar 0) (tVar 1)) (tOst K "word" (tVar 0) (tCnm K (tVar 0))) D [some (.ref a), some v] H := by
  refine ⟨_, rfl, _, rfl, a, C, rfl, O, F.fld, .inl ⟨ha, fun dx h1 h2 => ?_⟩⟩
  have e1 : (upd (upd H dx (exd dx [(("what" : Str), v)])) a (exo a C (some dx))) dx = some (exd dx [(("what" : Str), v)]) := by rw [upd_ne h2, upd_same]
  refine ⟨_, rfl, a, C, dx, _, nm, rfl, F, N, upd_same, e1, _, rfl, a, C, rfl, O, N.fw, .inr ⟨dx, _, upd_same, e1, by show 1 ≤ 900; decide, ?_⟩⟩
  rw [upd_twice h2]
  exact q dx h1 h2
end KR
/-! ### exceptions that are made and kept as values; many classes alike -/
namespace KR
open PySem PySem.Spec PyProof.Rows L2
def veT : List Value := [.type "ValueError", .type "Exception", .type "BaseException", .type "object"]
def IsRow (K : PySem.W.Frag) (C : Addr) (nm : Str) (bm : List Value) : Prop := ∃ q N bs sn sub ab col dd k0 k1 k2 k3 k5, K.lookup C = some (excClassObj nm q C N bs bm true sn sub ab col dd k0 k1 k2 k3 k5 "ValueError.__new__")
theorem IsRow.ne {K : PySem.W.Frag} {C D : Addr} {n m : Str} {b1 b2 : List Value} (r1 : IsRow K C n b1) (r2 : IsRow K D m b2) (h : n ≠ m) : C ≠ D := by
  rintro rfl
  obtain ⟨q, N, bs, sn, sub, ab, col, dd, k0, k1, k2, k3, k5, e1⟩ := r1
  obtain ⟨q', N', bs', sn', sub', ab', col', dd', k0', k1', k2', k3', k5', e2⟩ := r2
  rw [e1] at e2
  have e3 := congrArg Obj.data (Option.some.inj e2)
  injection e3 with e4
  injection e4 with e5
  exact h e5
theorem IsRow.cls {K : PySem.W.Frag} {C : Addr} {nm : Str} {bm : List Value} (r : IsRow K C nm bm) : ∃ cd, PySem.W.clsIn K C = some cd ∧ cd.mro = .ref C :: bm ∧ cd.hasDict = true := by
  obtain ⟨q, N, bs, sn, sub, ab, col, dd, k0, k1, k2, k3, k5, e⟩ := r
  exact ⟨_, by unfold PySem.W.clsIn; rw [e] <;> rfl, rfl, rfl⟩
theorem IsRow.sub {K : PySem.W.Frag} {C : Addr} {nm : Str} {bm : List Value} (r : IsRow K C nm bm) (b : Value) : PySem.W.subIn K (.ref C) b = some ((.ref C :: bm).contains b) := by
  obtain ⟨cd, e1, e2, _⟩ := r.cls
  show PySem.W.mroIn K C b = _
  unfold PySem.W.mroIn
  rw [e1, Option.bind_some, e2] <;> rfl
theorem IsRow.isCls {K : PySem.W.Frag} {C : Addr} {nm : Str} {bm : List Value} (r : IsRow K C nm bm) : PySem.W.isClsIn K C = true := by
  obtain ⟨cd, e1, _⟩ := r.cls
  show (PySem.W.clsIn K C).isSome = true
  rw [e1] <;> rfl
theorem IsRow.ty {K : PySem.W.Frag} {C : Addr} {nm : Str} {bm : List Value} (r : IsRow K C nm bm) : PySem.W.typeIn K (.ref C) = some (.type "type") := by
  obtain ⟨q, N, bs, sn, sub, ab, col, dd, k0, k1, k2, k3, k5, e⟩ := r
  show (K.lookup C).map _ = _
  rw [e] <;> rfl
theorem IsRow.dict {K : PySem.W.Frag} {C : Addr} {nm : Str} {bm : List Value} (r : IsRow K C nm bm) : PySem.W.hasDictIn K C = true := by
  obtain ⟨cd, e1, _, e3⟩ := r.cls
  unfold PySem.W.hasDictIn
  rw [e1]
  exact e3
/-- self.what = what, all that a class's own making does -/
def sp_mk (C : Addr) (nm : Str) : Sp := fun vs H Q _ => ∃ (a : Addr) (v : V), vs = [.ref a, v] ∧ H a = some (exo a C none) ∧ ∀ dx, H dx = none → dx ≠ a → Q .non (upd (upd H dx (exd dx (wh nm v))) a (exo a C (some dx)))
/-- a class of the twenty, B the one that they stand under -/
structure Cls (K : PySem.W.Frag) (B C : Addr) (nm : Str) : Prop where
  row : IsRow K C nm (.ref B :: veT)
  sa : PySem.W.findIn K (.ref C) "__setattr__" = some (some (.builtin "object.__setattr__"))
  kC : PySem.W.keepIn K (.ref C) = true
  ga : PySem.W.findIn K (.ref C) "__getattribute__" = some (some (.builtin "BaseException.__getattribute__"))
  gg : PySem.W.findIn K (.ref C) "__getattr__" = some none
  cl : PySem.W.findIn K (.ref C) "__class__" = some (some (.builtin "object.__class__"))
  fl : PySem.W.findIn K (.ref C) "what" = some none
  get : PySem.W.specialIn K (.builtin "object.__class__") "__get__" = some (some (.builtin "getset_descriptor.__get__"))
  tak : PySem.W.takesIn K (.builtin "object.__class__") = some true
  ini : ∃ fI fd, PySem.W.findIn K (.ref C) "__init__" = some (some (.ref fI)) ∧ PySem.W.typeIn K (.ref fI) = some (.type "function") ∧ Binds K fd ["self", "what"] [] ∧ ∀ P w mg base, FnOk P w K mg base CX0 1 fI fd ["self", "what"] (sp_mk C nm)
section
variable {K : PySem.W.Frag} {B C D : Addr} {n m : Str}
theorem Cls.has (r : Cls K B C n) (b : Value) (h : (Value.ref C :: Value.ref B :: veT).contains b = true) : PySem.W.subIn K (.ref C) b = some true := by
  rw [r.row.sub b, h]
theorem oex_of (r : IsRow K C n (.ref B :: veT)) (sa : PySem.W.findIn K (.ref C) "__setattr__" = some (some (.builtin "object.__setattr__"))) (kC : PySem.W.keepIn K (.ref C) = true) : OexC K C := by
  have r' := r
  obtain ⟨q, N, bs, sn, sub, ab, col, dd, k0, k1, k2, k3, k5, e⟩ := r'
  exact ⟨⟨_, _, _, _, _, _, _, _, _, _, _, _, _, _, _, e, rfl⟩, sa, by rw [r.sub]; simp [veT], r.ty, kC⟩
theorem exf_of (r : IsRow K C n (.ref B :: veT)) (ga : PySem.W.findIn K (.ref C) "__getattribute__" = some (some (.builtin "BaseException.__getattribute__"))) (gg : PySem.W.findIn K (.ref C) "__getattr__" = some none) (cl : PySem.W.findIn K (.ref C) "__class__" = some (some (.builtin "object.__class__")))
    (get : PySem.W.specialIn K (.builtin "object.__class__") "__get__" = some (some (.builtin "getset_descriptor.__get__"))) (tak : PySem.W.takesIn K (.builtin "object.__class__") = some true) (fl : PySem.W.findIn K (.ref C) "what" = some none) : ExcFacts K C :=
  ⟨r.isCls, ga, gg, by rw [r.sub]; simp [veT], cl, get, tak, by have h := r.sub (.type "object"); exact h.trans (by simp [veT]), r.dict, fl⟩
theorem Cls.oex (r : Cls K B C n) : OexC K C := oex_of r.row r.sa r.kC
theorem Cls.exf (r : Cls K B C n) : ExcFacts K C := ⟨r.row.isCls, r.ga, r.gg, r.has _ (by simp [veT]), r.cl, r.get, r.tak, by have h := r.has (.type "object") (by simp [veT]); exact h, r.row.dict, r.fl⟩
theorem Cls.same (r : Cls K B C n) : PySem.W.kitOne K (.ref C) (.ref C) = some true := kit_own r.row.isCls r.row.ty (r.has _ (by simp)) (r.has _ (by simp))
theorem Cls.other {nB : Str} {bB : List Value} (r : Cls K B C n) (r2 : Cls K B D m) (rB : IsRow K B nB bB) (h : n ≠ m) (h2 : m ≠ nB) : PySem.W.kitOne K (.ref C) (.ref D) = some false := by
  have e1 : D ≠ C := r2.row.ne r.row (Ne.symm h)
  have e2 : D ≠ B := r2.row.ne rB h2
  refine kit_own r2.row.isCls r2.row.ty ?_ (r.has _ (by simp))
  rw [r.row.sub]
  congr 1
  simp [veT, e1, e2]
theorem Cls.under {nB : Str} {bB : List Value} (r : Cls K B C n) (rB : IsRow K B nB bB) : PySem.W.kitOne K (.ref C) (.ref B) = some true := kit_own rB.isCls rB.ty (r.has _ (by simp)) (r.has _ (by simp))
theorem Cls.ve (r : Cls K B C n) : PySem.W.kitOne K (.ref C) (.type "ValueError") = some true := kit_ve (r.has _ (by simp [veT]))
end
/-- a.update(b): dicts -/
def rUpd : V → List V → Hp → VK → Prop := fun x vs H Q => ∃ (a b : Addr) (kvs more : List (Key × V)), x = .ref a ∧ vs = [.ref b] ∧ H a = some (.dK kvs) ∧ H b = some (.dK more) ∧ a ≠ b ∧ kvs.length + more.length ≤ sizeLine ∧ Q .non (upd H a (.dK (mergeK kvs more)))
theorem mt_upd {X : Cx} : MtM X "dict.update" rUpd := by
  intro pn s σ H x vs v us Q I r1 r2 want
  obtain ⟨a, b, kvs, more, rfl, rfl, ha, hb, ne, z, q⟩ := want
  obtain rfl : v = Value.ref a := r1
  cases r2 with
  | cons r3 r4 =>
    cases r4
    cases r3
    obtain ⟨z1, lo1, vs1, rel1, d1⟩ := dk_of I.hok ha
    obtain ⟨z2, lo2, vs2, rel2, d2⟩ := dk_of I.hok hb
    have l1 := Paired.length rel1
    have l2 := Paired.length rel2
    refine call_meetsIn PySem.F.slot_dict_update d1.typeIs PySem.F.entry_dict_update (PySem.F.args_dict_update_2 _ _) (meets_dict_update (mixKind X.prog X.w) a b ne lo2) ⟨vs1, vs2, d1, d2, by rw [← l1, ← l2]; exact z, fun h' e1 e2 sb => ?_⟩
    have le := length_mergeK more kvs
    have there : ∃ o, h'.get? a = some o := by
      obtain ⟨o, _, _, e, _⟩ := id e1
      exact ⟨o, e⟩
    refine ⟨.non, upd H a (.dK (mergeK kvs more)), I.write (t' := s.toks) (x := a) (e := a) (by rw [ha]; exact True.intro) (.inl rfl) (fun c o n e => (sb.2 c n).trans e) there ?_, rfl, q⟩
    exact ⟨by omega, lo1, merged vs1 vs2, KV.merge rel2 rel1, e1⟩
theorem merge_app : ∀ (more kvs : List (Key × V)), (kvs.map (·.1) ++ more.map (·.1)).Nodup → mergeK kvs more = kvs ++ more
  | [], kvs, _ => by
    show kvs = kvs ++ []
    rw [List.append_nil]
  | (k, v) :: more, kvs, nd => by
    have nk : (kvs.any fun kv => decide (kv.1 = k)) = false := by
      rw [List.any_eq_false]
      intro kv hkv e
      have e1 : kv.1 = k := of_decide_eq_true e
      have m : kv.1 ∈ kvs.map (·.1) := List.mem_map.mpr ⟨kv, hkv, rfl⟩
      have d := (List.nodup_append.mp nd).2.2 kv.1 m k (by simp)
      exact d e1
    have ep : putK kvs k v = kvs ++ [(k, v)] := by
      unfold putK
      rw [nk] <;> rfl
    show mergeK (putK kvs k v) more = _
    rw [ep, merge_app more (kvs ++ [(k, v)]) (by rw [List.map_append, List.append_assoc]; exact nd), List.append_assoc] <;> rfl
theorem val_at : ∀ {kvs : List (Key × V)} {i : Nat} {k : Key} {v : V}, kvs[i]? = some (k, v) → (kvs.map (·.1)).Nodup → valV kvs k = some v
  | [], i, k, v, h, _ => by simp at h
  | p :: r, 0, k, v, h, _ => by
    cases h
    exact valV_pos rfl
  | p :: r, i + 1, k, v, h, nd => by
    have h' : r[i]? = some (k, v) := h
    have nd' : (p.1 :: r.map (·.1)).Nodup := nd
    have ne : ¬ p.1 = k := fun e => (List.nodup_cons.mp nd').1 (List.mem_map.mpr ⟨(k, v), List.mem_of_getElem? h', e.symm⟩)
    rw [valV_neg ne]
    exact val_at h' (List.nodup_cons.mp nd').2
/-- C(e), the new one kept -/
def tMade (C : Addr) (nm : Str) (ta : TA) : TE := fun σ H Q => ta σ H fun vs H1 => ∃ v, vs = [v] ∧ ∀ (a d : Addr) (H' : Hp), Same H1 H' → H' a = some (ExK (.ref C) (some d) a) → H' d = some (.xd (wh nm v)) → Q (.ref a) H'
theorem made_same {H : Hp} {a d : Addr} {o1 o2 o3 o4 : HO} (ha : H a = none) (hd : H d = none) : Same H (upd (del (upd (upd (upd H a o1) d o2) a o3) a) d o4) := fun b o e => by
  have n1 := ne_of_none e ha
  have n2 := ne_of_none e hd
  rw [upd_ne n2, del_ne n1, upd_ne n1, upd_ne n2, upd_ne n1]
  exact e
theorem pe_made {X : Cx} {B C : Addr} {n x : Str} {k : Nat} {e : Expr} {ta : TA} {p pos : Pos} (r : Cls X.K B C n) (hr : Room (k + 2) X.A) (hg : Gl X x) (hm : X.mg x = some (.ref C)) (ha : PA X [e] ta)
    (hdb : (x == ("__debug__" : Str)) = false := by decide) (he : starEach [e] X.env = (false, eval e X.env) :: starEach [] X.env := by rfl) (hpl : (backTo pos (starEach [] X.env)).any (·.1) = false := by rfl) :
    PE X (.Call (.Name x p) [e] [] pos) (tMade C n ta) := by
  obtain ⟨fI, fd, i1, i2, i3, i4⟩ := r.ini
  have mk := pmk_oex (es := []) (p := p) (pos := pos) (ta := clA ta) r.oex i1 i2 (i4 X.prog X.w X.mg X.base) (hr.mono (by omega)) i3 .nil pass0 hg hm (pa_cl ha) hdb he hpl
  constructor
  intro pins s σ H Q I ask
  let W : XK := fun cls d G => cls = .ref C ∧ ∃ (dd : Addr) (v : V), d = some dd ∧ G dd = some (.xd (wh n v)) ∧ ∀ (a : Addr) (G' : Hp), Same G G' → G' a = some (ExK (.ref C) (some dd) a) → Q (.ref a) G'
  have ask2 : tMkO C (sp_mk C n) [] (clA ta) σ H W := by
    refine ⟨_, fun vs H1 got => ?_, ask⟩
    obtain ⟨v, rfl, q⟩ := got
    refine ⟨by show 1 ≤ 1000; decide, fun a free => ⟨a, v, rfl, upd_same, fun d hd hne => ?_⟩⟩
    rw [upd_ne hne] at hd
    exact ⟨rfl, d, (wh n v), upd_same, by rw [upd_ne hne, upd_same], hd, rfl, d, v, rfl, upd_same, fun a' G' sm h' => q a' d G' ((made_same free hd).trans sm) h' (sm _ _ upd_same)⟩
  refine wpAny_mono (mk pins s σ H W I ask2) (fun u s1 done => ?_) fun _ _ z => z
  obtain ⟨a, oe, vs, sI, G, cls, d, rfl, J, sub, gone, at_, z, da, _, na, os, bare, _, ec, dd, v, ed, hdd, q⟩ := done
  subst ec ed
  have sm : Same G (upd G a (ExK (.ref C) (some dd) a)) := same_new na
  refine ⟨.ref a, upd G a (ExK (.ref C) (some dd) a), ?_, rfl, q a _ sm upd_same⟩
  refine J.call' (ch := []) os ⟨fun b o w _ _ _ => sub b o w, fun b o w _ _ _ => ⟨o.slots, sub b o w⟩, fun b o w n' _ => ?_, fun b o w _ => ⟨o, sub b o w⟩, fun b xs w => sm _ _ w, fun b o u w => sm _ _ w, fun b ps w => ⟨#[], by rw [sm _ _ w]; simp⟩⟩ (fun b o w => ?_) bare (fun b w => absurd w (by simp))
  · rw [upd_ne (fun y => by rw [y, gone] at w; cases w)]
    exact n'
  · by_cases hb : b = a
    · subst hb
      rw [upd_same] at w
      cases w
      exact exK_ok at_ z da
    · rw [upd_ne hb] at w
      exact (J.hok b o w).stay (fun c v _ y => sub c v y) (fun c y => sm _ _ y) fun c xs y => sm _ _ y
end KR
/-! ### data of tuples, texts, numbers; repr of any of it -/
namespace KR
open PySem PySem.Spec PyProof.Rows L2
inductive Dg (K : PySem.W.Frag) (H : Hp) : Nat → V → PyData → Prop
  | non (n : Nat) : Dg K H n .non .none
  | int (n : Nat) (i : Int) : Dg K H n (.int i) (.int i)
  | str (n : Nat) (x : Str) : Dg K H n (.str x) (.str x)
  | tup {n : Nat} {a : Addr} {xs : List V} {ds : List PyData} : SqT K H a xs → xs.length = ds.length → (∀ (i : Nat) (x : V) (d : PyData), xs[i]? = some x → ds[i]? = some d → Dg K H n x d) → Dg K H (n + 1) (.ref a) (.tuple ds)
theorem Dg.on {K : PySem.W.Frag} {H H' : Hp} (k : ∀ a xs, SqT K H a xs → SqT K H' a xs) : ∀ {n : Nat} {v : V} {d : PyData}, Dg K H n v d → Dg K H' n v d := by
  intro n v d h
  induction h with
  | non n => exact .non n
  | int n i => exact .int n i
  | str n x => exact .str n x
  | tup h1 h2 _ ih => exact .tup (k _ _ h1) h2 ih
theorem Dg.same {K : PySem.W.Frag} {H H' : Hp} (s : Same H H') {n : Nat} {v : V} {d : PyData} (h : Dg K H n v d) : Dg K H' n v d := h.on fun _ _ q => Same.tup s q
theorem Dg.fr {K : PySem.W.Frag} {H H' : Hp} {p : Addr} {m n : Nat} {v : V} {d : PyData} (h : Dg K H n v d) (B : BoxAt H p m) (f : Fr p H H') : Dg K H' n v d := h.on fun _ _ q => sqT_fr q B f
theorem dps_of {K : PySem.W.Frag} {H : Hp} : ∀ {xs : List V} {ds : List PyData}, xs.length = ds.length → (∀ (i : Nat) (x : V) (d : PyData), xs[i]? = some x → ds[i]? = some d → Dp K H x d) → DpAll K H xs ds
  | [], [], _, _ => .nil
  | x :: xs, d :: ds, hl, h => .cons (h 0 x d rfl rfl) (dps_of (by rw [List.length_cons, List.length_cons] at hl; omega) fun i y e a b => h (i + 1) y e a b)
theorem Dg.dp {K : PySem.W.Frag} {H : Hp} {n : Nat} {v : V} {d : PyData} (h : Dg K H n v d) : Dp K H v d := by
  induction h with
  | non n => exact .non
  | int n i => exact .int i
  | str n x => exact .str x
  | tup h1 h2 _ ih => exact .tup h1 (dps_of h2 ih)
def DgAll (K : PySem.W.Frag) (H : Hp) (n : Nat) (xs : List V) (ds : List PyData) : Prop := xs.length = ds.length ∧ ∀ (i : Nat) (x : V) (d : PyData), xs[i]? = some x → ds[i]? = some d → Dg K H n x d
theorem DgAll.nil {K : PySem.W.Frag} {H : Hp} {n : Nat} : DgAll K H n [] [] := ⟨rfl, fun i x d h => by simp at h⟩
theorem DgAll.cons {K : PySem.W.Frag} {H : Hp} {n : Nat} {x : V} {d : PyData} {xs : List V} {ds : List PyData} (h : Dg K H n x d) (t : DgAll K H n xs ds) : DgAll K H n (x :: xs) (d :: ds) :=
  ⟨by rw [List.length_cons, List.length_cons, t.1], fun i u v hu hv => match i, hu, hv with
    | 0, hu, hv => by cases hu; cases hv; exact h
    | i + 1, hu, hv => t.2 i u v hu hv⟩
theorem DgAll.tup {K : PySem.W.Frag} {H : Hp} {n : Nat} {xs : List V} {ds : List PyData} {a : Addr} (t : DgAll K H n xs ds) (h : SqT K H a xs) : Dg K H (n + 1) (.ref a) (.tuple ds) := .tup h t.1 t.2
/-- data that can be shown -/
structure Fine (k w : Nat) (d : PyData) : Prop where
  lay : PyData.canLay0 d = true
  dep : PyData.depth d ≤ k
  wt : PyData.weight d ≤ w
  ish : PyData.intsShort 13 d = true
  sh : PyData.showable d = true
  nd : PyData.hasDict d = false
structure FineAll (k w : Nat) (ds : List PyData) : Prop where
  lay : PyData.canLayAll0 ds = true
  dep : PyData.depthAll ds ≤ k
  wt : PyData.weightAll ds ≤ w
  ish : PyData.intsShortAll 13 ds = true
  sh : PyData.showableAll ds = true
  nd : PyData.hasDictAll ds = false
theorem FineAll.nil (k : Nat) : FineAll k 0 [] := ⟨rfl, Nat.zero_le _, Nat.le_refl _, rfl, rfl, rfl⟩
theorem FineAll.cons {k a b : Nat} {d : PyData} {ds : List PyData} (h : Fine k a d) (t : FineAll k b ds) : FineAll k (a + 1 + b) (d :: ds) := by
  refine ⟨?_, ?_, ?_, ?_, ?_, ?_⟩
  · show (PyData.canLay0 d && PyData.canLayAll0 ds) = true
    rw [h.lay, t.lay] <;> rfl
  · show max (PyData.depth d) (PyData.depthAll ds) ≤ k
    have := h.dep
    have := t.dep
    omega
  · show PyData.weight d + 1 + PyData.weightAll ds ≤ a + 1 + b
    have := h.wt
    have := t.wt
    omega
  · show (PyData.intsShort 13 d && PyData.intsShortAll 13 ds) = true
    rw [h.ish, t.ish] <;> rfl
  · show (PyData.showable d && PyData.showableAll ds) = true
    rw [h.sh, t.sh] <;> rfl
  · show (PyData.hasDict d || PyData.hasDictAll ds) = false
    rw [h.nd, t.nd] <;> rfl
theorem FineAll.tup {k w : Nat} {ds : List PyData} (t : FineAll k w ds) : Fine (k + 1) w (.tuple ds) := ⟨t.lay, Nat.succ_le_succ t.dep, t.wt, t.ish, t.sh, t.nd⟩
theorem Fine.up {k k' w w' : Nat} {d : PyData} (h : Fine k w d) (h1 : k ≤ k') (h2 : w ≤ w') : Fine k' w' d := ⟨h.lay, Nat.le_trans h.dep h1, Nat.le_trans h.wt h2, h.ish, h.sh, h.nd⟩
theorem Fine.non (k : Nat) : Fine k 0 .none := ⟨rfl, Nat.zero_le _, Nat.le_refl _, rfl, rfl, rfl⟩
theorem nat_short : ∀ n < 1001, (PyData.shown (.int ((n : Nat) : Int))).length ≤ 13 ∧ PyData.weight (.int ((n : Nat) : Int)) ≤ 12 ∧ ((n : Nat) : Int).natAbs.log2 < 1920 := by decide +kernel
theorem Fine.int {i : Int} (k : Nat) (h0 : 0 ≤ i) (h1 : i ≤ 1000) : Fine k 12 (.int i) := by
  obtain ⟨n, rfl⟩ : ∃ n : Nat, i = (n : Int) := ⟨i.toNat, by omega⟩
  obtain ⟨e1, e2, e3⟩ := nat_short n (by omega)
  exact ⟨rfl, Nat.zero_le _, e2, decide_eq_true e1, decide_eq_true e3, rfl⟩
theorem Fine.minus (k : Nat) : Fine k 12 (.int (-1)) := ⟨rfl, Nat.zero_le _, by decide +kernel, by decide +kernel, by decide +kernel, rfl⟩
theorem Fine.str {x : Str} {n : Nat} (k : Nat) (h : x.length ≤ n) (c : ∀ c ∈ TL.tl x, c < 128) : Fine k n (.str x) := by
  refine ⟨?_, Nat.zero_le _, h, rfl, rfl, rfl⟩
  show PyData.strOk x = true
  unfold PyData.strOk
  rw [← Array.all_toList, List.all_eq_true]
  exact fun d hd => decide_eq_true (Nat.lt_trans (c d hd) (by decide))
theorem Fine.line {k w : Nat} {d : PyData} (h : Fine k w d) (hk : k ≤ 60) (hw : w ≤ 100000) : d.shown.length ≤ sizeLine := by
  have dep := h.dep
  have wt := h.wt
  have l : PyData.layable0 d = true := by
    show (PyData.canLay0 d && decide (PyData.depth d ≤ 64) && decide (PyData.weight d ≤ 2 ^ 20)) = true
    rw [h.lay, decide_eq_true (by omega), decide_eq_true (show PyData.weight d ≤ 2 ^ 20 by omega)] <;> rfl
  exact Nat.le_trans (shown_le13 l h.ish) (by decide)
/-- repr of any such data -/
def rReprV (K : PySem.W.Frag) : List V → Hp → VK → Prop := fun xs H Q => ∃ (v : V) (d : PyData) (k w : Nat), xs = [v] ∧ Dp K H v d ∧ Fine k w d ∧ k ≤ 60 ∧ w ≤ 100000 ∧ Q (.str d.shown) H
theorem cr_reprV {X : Cx} {K : PySem.W.Frag} (hK : X.K = K) (hg : X.A.guards = some []) (hu : X.A.units + 64 < cLine) : CallR X (.builtin "repr") (rReprV K) := by
  subst hK
  intro pn s σ H xs us Q I r want
  obtain ⟨v, d, k, w, rfl, dp, f, hk, hw, q⟩ := want
  have len := f.line hk hw
  have dep := f.dep
  cases r with
  | cons r1 r2 =>
    cases r2
    cases dp with
    | non =>
      cases r1
      exact PySem.P.repr_of_none ⟨.str _, H, I.tok _, ⟨_, rfl⟩, q⟩
    | bl b =>
      cases r1
      exact PySem.P.repr_of_bool ⟨.str _, H, I.tok _, ⟨_, rfl⟩, q⟩
    | int i =>
      obtain ⟨t, rfl⟩ := r1
      exact PySem.P.repr_of_int (of_decide_eq_true f.sh) ⟨.str _, H, I.tok _, ⟨_, rfl⟩, q⟩
    | str x =>
      obtain ⟨t, rfl⟩ := r1
      exact PySem.P.repr_of_str ⟨.str _, H, I.tok _, ⟨_, rfl⟩, q⟩ len
    | lst a1 a2 =>
      obtain ⟨as, rd⟩ := Dp.reads I _ _ _ (Dp.lst a1 a2) r1
      cases r1
      exact repr_of_reads' rd f.sh (PyData.noDict_hsm f.nd) hg (by omega) (fun _ _ e => e) (fun h' u tk hkk => ⟨.str _, H, I.kept (fun b o e => hkk b o e), ⟨_, rfl⟩, q⟩) len
    | tup a1 a2 =>
      obtain ⟨as, rd⟩ := Dp.reads I _ _ _ (Dp.tup a1 a2) r1
      cases r1
      exact repr_of_reads' rd f.sh (PyData.noDict_hsm f.nd) hg (by omega) (fun _ _ e => e) (fun h' u tk hkk => ⟨.str _, H, I.kept (fun b o e => hkk b o e), ⟨_, rfl⟩, q⟩) len
end KR
namespace KR
open PySem PySem.Spec PyProof.Rows L2
def top (i : Nat) : Stmt := PySem.Challenge.pw_kettlerow_k11_refusals_made_by_hand.main.body.getD i (.Pass ⟨0, 0, 0, 0⟩)
abbrev s_l_cell_at : Stmt := top 23
theorem sc_l_cell_at : FnScope ["_law_script", "_law_k"] ["_law_script", "_law_k"] (defScope s_l_cell_at) := ⟨rfl, rfl, rfl, by decide +kernel, rfl, by decide +kernel, by decide +kernel⟩
abbrev s_l_box : Stmt := top 24
theorem sc_l_box : FnScope ["_law_script", "_law_k", "_law_cell"] ["_law_script", "_law_k"] (defScope s_l_box) := ⟨rfl, rfl, rfl, by decide +kernel, rfl, by decide +kernel, by decide +kernel⟩
abbrev s_l_take : Stmt := top 25
theorem sc_l_take : FnScope ["_law_box_here", "_law_many", "_law_found", "_law_once", "_law_twice"] ["_law_box_here", "_law_many"] (defScope s_l_take) := ⟨rfl, rfl, rfl, by decide +kernel, rfl, by decide +kernel, by decide +kernel⟩
abbrev s_l_names : Stmt := top 26
theorem sc_l_names : FnScope ["_law_box_here", "_law_many", "_law_letters", "_law_found", "_law_first", "_law_step", "_law_stem", "_law_tail", "_law_k", "_law_one", "_law_other", "_law_name"] ["_law_box_here", "_law_many"] (defScope s_l_names) := ⟨rfl, rfl, rfl, by decide +kernel, rfl, by decide +kernel, by decide +kernel⟩
abbrev s_l_fits : Stmt := top 27
theorem sc_l_fits : FnScope ["_law_caught", "_law_some"] ["_law_caught"] (defScope s_l_fits) := ⟨rfl, rfl, rfl, by decide +kernel, rfl, by decide +kernel, by decide +kernel⟩
abbrev s_l_thing : Stmt := top 28
theorem sc_l_thing : FnScope ["_law_box_here", "_law_sort", "_law_name", "_law_number", "_law_way", "_law_some"] ["_law_box_here", "_law_sort"] (defScope s_l_thing) := ⟨rfl, rfl, rfl, by decide +kernel, rfl, by decide +kernel, by decide +kernel⟩
abbrev s_l_all_made : Stmt := top 29
theorem sc_l_all_made : FnScope ["_law_things", "_law_found"] ["_law_things"] (defScope s_l_all_made) := ⟨rfl, rfl, rfl, by decide +kernel, rfl, by decide +kernel, by decide +kernel⟩
abbrev s_l_right : Stmt := top 30
theorem sc_l_right : FnScope ["_law_box_here", "_law_sorts", "_law_things", "_law_more", "_law_sort", "_law_made", "_law_others", "_law_at", "_law_one", "_law_k"] ["_law_box_here"] (defScope s_l_right) := ⟨rfl, rfl, rfl, by decide +kernel, rfl, by decide +kernel, by decide +kernel⟩
abbrev s_p_law : Stmt := top 31
theorem sc_p_law : FnScope ["_law_script", "_law_k"] ["_law_script"] (defScope s_p_law) := ⟨rfl, rfl, rfl, by decide +kernel, rfl, by decide +kernel, by decide +kernel⟩
def clsBody : Stmt → List Stmt
  | .ClassDef (body := b) .. => b
  | _ => []
abbrev s_init_BadFrac : Stmt := (clsBody (top 2)).getD 0 (.Pass ⟨0, 0, 0, 0⟩)
theorem sc_init_BadFrac : FnScope ["self", "what"] ["self", "what"] (defScope s_init_BadFrac) := ⟨rfl, rfl, rfl, by decide +kernel, rfl, by decide +kernel, by decide +kernel⟩
theorem ini_BadFrac {K : PySem.W.Frag} {C fI : Addr} {fd : FuncData} (O : OexC K C) (fx : ExcFacts K C) (N : NmC K C "BadFrac") (F : Fun K "__init__" "BadFrac.__init__" s_init_BadFrac fI fd) (P : Program) (w : World) (mg : Str → Option Value) (base : Heap) : FnOk P w K mg base CX0 1 fI fd ["self", "what"] (sp_mk C "BadFrac") := by
  refine F.ok sc_init_BadFrac (fun vs H Q E h => ?_) (fun cdv A outer s H vs Q E hr h => ?_)
  · obtain ⟨a, v, rfl, _⟩ := h
    rfl
  · obtain ⟨a, v, rfl, ha, q⟩ := h
    exact ⟨_, pss_cons (ps_ost (pv 0) (pv 1)) (pss_one (ps_ost (pv 0) (pe_cnm (pv 0)))), init_reads O fx N ha fun dx h1 h2 => q dx h1 h2⟩
abbrev s_init_BadKettles : Stmt := (clsBody (top 3)).getD 0 (.Pass ⟨0, 0, 0, 0⟩)
theorem sc_init_BadKettles : FnScope ["self", "what"] ["self", "what"] (defScope s_init_BadKettles) := ⟨rfl, rfl, rfl, by decide +kernel, rfl, by decide +kernel, by decide +kernel⟩
theorem ini_BadKettles {K : PySem.W.Frag} {C fI : Addr} {fd : FuncData} (O : OexC K C) (fx : ExcFacts K C) (N : NmC K C "BadKettles") (F : Fun K "__init__" "BadKettles.__init__" s_init_BadKettles fI fd) (P : Program) (w : World) (mg : Str → Option Value) (base : Heap) : FnOk P w K mg base CX0 1 fI fd ["self", "what"] (sp_mk C "BadKettles") := by
  refine F.ok sc_init_BadKettles (fun vs H Q E h => ?_) (fun cdv A outer s H vs Q E hr h => ?_)
  · obtain ⟨a, v, rfl, _⟩ := h
    rfl
  · obtain ⟨a, v, rfl, ha, q⟩ := h
    exact ⟨_, pss_cons (ps_ost (pv 0) (pv 1)) (pss_one (ps_ost (pv 0) (pe_cnm (pv 0)))), init_reads O fx N ha fun dx h1 h2 => q dx h1 h2⟩
abbrev s_init_BadMoulds : Stmt := (clsBody (top 4)).getD 0 (.Pass ⟨0, 0, 0, 0⟩)
theorem sc_init_BadMoulds : FnScope ["self", "what"] ["self", "what"] (defScope s_init_BadMoulds) := ⟨rfl, rfl, rfl, by decide +kernel, rfl, by decide +kernel, by decide +kernel⟩
theorem ini_BadMoulds {K : PySem.W.Frag} {C fI : Addr} {fd : FuncData} (O : OexC K C) (fx : ExcFacts K C) (N : NmC K C "BadMoulds") (F : Fun K "__init__" "BadMoulds.__init__" s_init_BadMoulds fI fd) (P : Program) (w : World) (mg : Str → Option Value) (base : Heap) : FnOk P w K mg base CX0 1 fI fd ["self", "what"] (sp_mk C "BadMoulds") := by
  refine F.ok sc_init_BadMoulds (fun vs H Q E h => ?_) (fun cdv A outer s H vs Q E hr h => ?_)
  · obtain ⟨a, v, rfl, _⟩ := h
    rfl
  · obtain ⟨a, v, rfl, ha, q⟩ := h
    exact ⟨_, pss_cons (ps_ost (pv 0) (pv 1)) (pss_one (ps_ost (pv 0) (pe_cnm (pv 0)))), init_reads O fx N ha fun dx h1 h2 => q dx h1 h2⟩
abbrev s_init_BadRow : Stmt := (clsBody (top 5)).getD 0 (.Pass ⟨0, 0, 0, 0⟩)
theorem sc_init_BadRow : FnScope ["self", "what"] ["self", "what"] (defScope s_init_BadRow) := ⟨rfl, rfl, rfl, by decide +kernel, rfl, by decide +kernel, by decide +kernel⟩
theorem ini_BadRow {K : PySem.W.Frag} {C fI : Addr} {fd : FuncData} (O : OexC K C) (fx : ExcFacts K C) (N : NmC K C "BadRow") (F : Fun K "__init__" "BadRow.__init__" s_init_BadRow fI fd) (P : Program) (w : World) (mg : Str → Option Value) (base : Heap) : FnOk P w K mg base CX0 1 fI fd ["self", "what"] (sp_mk C "BadRow") := by
  refine F.ok sc_init_BadRow (fun vs H Q E h => ?_) (fun cdv A outer s H vs Q E hr h => ?_)
  · obtain ⟨a, v, rfl, _⟩ := h
    rfl
  · obtain ⟨a, v, rfl, ha, q⟩ := h
    exact ⟨_, pss_cons (ps_ost (pv 0) (pv 1)) (pss_one (ps_ost (pv 0) (pe_cnm (pv 0)))), init_reads O fx N ha fun dx h1 h2 => q dx h1 h2⟩
abbrev s_init_BadDeed : Stmt := (clsBody (top 6)).getD 0 (.Pass ⟨0, 0, 0, 0⟩)
theorem sc_init_BadDeed : FnScope ["self", "what"] ["self", "what"] (defScope s_init_BadDeed) := ⟨rfl, rfl, rfl, by decide +kernel, rfl, by decide +kernel, by decide +kernel⟩
theorem ini_BadDeed {K : PySem.W.Frag} {C fI : Addr} {fd : FuncData} (O : OexC K C) (fx : ExcFacts K C) (N : NmC K C "BadDeed") (F : Fun K "__init__" "BadDeed.__init__" s_init_BadDeed fI fd) (P : Program) (w : World) (mg : Str → Option Value) (base : Heap) : FnOk P w K mg base CX0 1 fI fd ["self", "what"] (sp_mk C "BadDeed") := by
  refine F.ok sc_init_BadDeed (fun vs H Q E h => ?_) (fun cdv A outer s H vs Q E hr h => ?_)
  · obtain ⟨a, v, rfl, _⟩ := h
    rfl
  · obtain ⟨a, v, rfl, ha, q⟩ := h
    exact ⟨_, pss_cons (ps_ost (pv 0) (pv 1)) (pss_one (ps_ost (pv 0) (pe_cnm (pv 0)))), init_reads O fx N ha fun dx h1 h2 => q dx h1 h2⟩
abbrev s_init_NoKettle : Stmt := (clsBody (top 7)).getD 0 (.Pass ⟨0, 0, 0, 0⟩)
theorem sc_init_NoKettle : FnScope ["self", "what"] ["self", "what"] (defScope s_init_NoKettle) := ⟨rfl, rfl, rfl, by decide +kernel, rfl, by decide +kernel, by decide +kernel⟩
theorem ini_NoKettle {K : PySem.W.Frag} {C fI : Addr} {fd : FuncData} (O : OexC K C) (fx : ExcFacts K C) (N : NmC K C "NoKettle") (F : Fun K "__init__" "NoKettle.__init__" s_init_NoKettle fI fd) (P : Program) (w : World) (mg : Str → Option Value) (base : Heap) : FnOk P w K mg base CX0 1 fI fd ["self", "what"] (sp_mk C "NoKettle") := by
  refine F.ok sc_init_NoKettle (fun vs H Q E h => ?_) (fun cdv A outer s H vs Q E hr h => ?_)
  · obtain ⟨a, v, rfl, _⟩ := h
    rfl
  · obtain ⟨a, v, rfl, ha, q⟩ := h
    exact ⟨_, pss_cons (ps_ost (pv 0) (pv 1)) (pss_one (ps_ost (pv 0) (pe_cnm (pv 0)))), init_reads O fx N ha fun dx h1 h2 => q dx h1 h2⟩
abbrev s_init_NoMould : Stmt := (clsBody (top 8)).getD 0 (.Pass ⟨0, 0, 0, 0⟩)
theorem sc_init_NoMould : FnScope ["self", "what"] ["self", "what"] (defScope s_init_NoMould) := ⟨rfl, rfl, rfl, by decide +kernel, rfl, by decide +kernel, by decide +kernel⟩
theorem ini_NoMould {K : PySem.W.Frag} {C fI : Addr} {fd : FuncData} (O : OexC K C) (fx : ExcFacts K C) (N : NmC K C "NoMould") (F : Fun K "__init__" "NoMould.__init__" s_init_NoMould fI fd) (P : Program) (w : World) (mg : Str → Option Value) (base : Heap) : FnOk P w K mg base CX0 1 fI fd ["self", "what"] (sp_mk C "NoMould") := by
  refine F.ok sc_init_NoMould (fun vs H Q E h => ?_) (fun cdv A outer s H vs Q E hr h => ?_)
  · obtain ⟨a, v, rfl, _⟩ := h
    rfl
  · obtain ⟨a, v, rfl, ha, q⟩ := h
    exact ⟨_, pss_cons (ps_ost (pv 0) (pv 1)) (pss_one (ps_ost (pv 0) (pe_cnm (pv 0)))), init_reads O fx N ha fun dx h1 h2 => q dx h1 h2⟩
abbrev s_init_NoShare : Stmt := (clsBody (top 9)).getD 0 (.Pass ⟨0, 0, 0, 0⟩)
theorem sc_init_NoShare : FnScope ["self", "what"] ["self", "what"] (defScope s_init_NoShare) := ⟨rfl, rfl, rfl, by decide +kernel, rfl, by decide +kernel, by decide +kernel⟩
theorem ini_NoShare {K : PySem.W.Frag} {C fI : Addr} {fd : FuncData} (O : OexC K C) (fx : ExcFacts K C) (N : NmC K C "NoShare") (F : Fun K "__init__" "NoShare.__init__" s_init_NoShare fI fd) (P : Program) (w : World) (mg : Str → Option Value) (base : Heap) : FnOk P w K mg base CX0 1 fI fd ["self", "what"] (sp_mk C "NoShare") := by
  refine F.ok sc_init_NoShare (fun vs H Q E h => ?_) (fun cdv A outer s H vs Q E hr h => ?_)
  · obtain ⟨a, v, rfl, _⟩ := h
    rfl
  · obtain ⟨a, v, rfl, ha, q⟩ := h
    exact ⟨_, pss_cons (ps_ost (pv 0) (pv 1)) (pss_one (ps_ost (pv 0) (pe_cnm (pv 0)))), init_reads O fx N ha fun dx h1 h2 => q dx h1 h2⟩
abbrev s_init_NoRoom : Stmt := (clsBody (top 10)).getD 0 (.Pass ⟨0, 0, 0, 0⟩)
theorem sc_init_NoRoom : FnScope ["self", "what"] ["self", "what"] (defScope s_init_NoRoom) := ⟨rfl, rfl, rfl, by decide +kernel, rfl, by decide +kernel, by decide +kernel⟩
theorem ini_NoRoom {K : PySem.W.Frag} {C fI : Addr} {fd : FuncData} (O : OexC K C) (fx : ExcFacts K C) (N : NmC K C "NoRoom") (F : Fun K "__init__" "NoRoom.__init__" s_init_NoRoom fI fd) (P : Program) (w : World) (mg : Str → Option Value) (base : Heap) : FnOk P w K mg base CX0 1 fI fd ["self", "what"] (sp_mk C "NoRoom") := by
  refine F.ok sc_init_NoRoom (fun vs H Q E h => ?_) (fun cdv A outer s H vs Q E hr h => ?_)
  · obtain ⟨a, v, rfl, _⟩ := h
    rfl
  · obtain ⟨a, v, rfl, ha, q⟩ := h
    exact ⟨_, pss_cons (ps_ost (pv 0) (pv 1)) (pss_one (ps_ost (pv 0) (pe_cnm (pv 0)))), init_reads O fx N ha fun dx h1 h2 => q dx h1 h2⟩
abbrev s_init_NoHour : Stmt := (clsBody (top 11)).getD 0 (.Pass ⟨0, 0, 0, 0⟩)
theorem sc_init_NoHour : FnScope ["self", "what"] ["self", "what"] (defScope s_init_NoHour) := ⟨rfl, rfl, rfl, by decide +kernel, rfl, by decide +kernel, by decide +kernel⟩
theorem ini_NoHour {K : PySem.W.Frag} {C fI : Addr} {fd : FuncData} (O : OexC K C) (fx : ExcFacts K C) (N : NmC K C "NoHour") (F : Fun K "__init__" "NoHour.__init__" s_init_NoHour fI fd) (P : Program) (w : World) (mg : Str → Option Value) (base : Heap) : FnOk P w K mg base CX0 1 fI fd ["self", "what"] (sp_mk C "NoHour") := by
  refine F.ok sc_init_NoHour (fun vs H Q E h => ?_) (fun cdv A outer s H vs Q E hr h => ?_)
  · obtain ⟨a, v, rfl, _⟩ := h
    rfl
  · obtain ⟨a, v, rfl, ha, q⟩ := h
    exact ⟨_, pss_cons (ps_ost (pv 0) (pv 1)) (pss_one (ps_ost (pv 0) (pe_cnm (pv 0)))), init_reads O fx N ha fun dx h1 h2 => q dx h1 h2⟩
abbrev s_init_NoTelling : Stmt := (clsBody (top 12)).getD 0 (.Pass ⟨0, 0, 0, 0⟩)
theorem sc_init_NoTelling : FnScope ["self", "what"] ["self", "what"] (defScope s_init_NoTelling) := ⟨rfl, rfl, rfl, by decide +kernel, rfl, by decide +kernel, by decide +kernel⟩
theorem ini_NoTelling {K : PySem.W.Frag} {C fI : Addr} {fd : FuncData} (O : OexC K C) (fx : ExcFacts K C) (N : NmC K C "NoTelling") (F : Fun K "__init__" "NoTelling.__init__" s_init_NoTelling fI fd) (P : Program) (w : World) (mg : Str → Option Value) (base : Heap) : FnOk P w K mg base CX0 1 fI fd ["self", "what"] (sp_mk C "NoTelling") := by
  refine F.ok sc_init_NoTelling (fun vs H Q E h => ?_) (fun cdv A outer s H vs Q E hr h => ?_)
  · obtain ⟨a, v, rfl, _⟩ := h
    rfl
  · obtain ⟨a, v, rfl, ha, q⟩ := h
    exact ⟨_, pss_cons (ps_ost (pv 0) (pv 1)) (pss_one (ps_ost (pv 0) (pe_cnm (pv 0)))), init_reads O fx N ha fun dx h1 h2 => q dx h1 h2⟩
abbrev s_init_NoSteady : Stmt := (clsBody (top 13)).getD 0 (.Pass ⟨0, 0, 0, 0⟩)
theorem sc_init_NoSteady : FnScope ["self", "what"] ["self", "what"] (defScope s_init_NoSteady) := ⟨rfl, rfl, rfl, by decide +kernel, rfl, by decide +kernel, by decide +kernel⟩
theorem ini_NoSteady {K : PySem.W.Frag} {C fI : Addr} {fd : FuncData} (O : OexC K C) (fx : ExcFacts K C) (N : NmC K C "NoSteady") (F : Fun K "__init__" "NoSteady.__init__" s_init_NoSteady fI fd) (P : Program) (w : World) (mg : Str → Option Value) (base : Heap) : FnOk P w K mg base CX0 1 fI fd ["self", "what"] (sp_mk C "NoSteady") := by
  refine F.ok sc_init_NoSteady (fun vs H Q E h => ?_) (fun cdv A outer s H vs Q E hr h => ?_)
  · obtain ⟨a, v, rfl, _⟩ := h
    rfl
  · obtain ⟨a, v, rfl, ha, q⟩ := h
    exact ⟨_, pss_cons (ps_ost (pv 0) (pv 1)) (pss_one (ps_ost (pv 0) (pe_cnm (pv 0)))), init_reads O fx N ha fun dx h1 h2 => q dx h1 h2⟩
abbrev s_init_Empty : Stmt := (clsBody (top 14)).getD 0 (.Pass ⟨0, 0, 0, 0⟩)
theorem sc_init_Empty : FnScope ["self", "what"] ["self", "what"] (defScope s_init_Empty) := ⟨rfl, rfl, rfl, by decide +kernel, rfl, by decide +kernel, by decide +kernel⟩
theorem ini_Empty {K : PySem.W.Frag} {C fI : Addr} {fd : FuncData} (O : OexC K C) (fx : ExcFacts K C) (N : NmC K C "Empty") (F : Fun K "__init__" "Empty.__init__" s_init_Empty fI fd) (P : Program) (w : World) (mg : Str → Option Value) (base : Heap) : FnOk P w K mg base CX0 1 fI fd ["self", "what"] (sp_mk C "Empty") := by
  refine F.ok sc_init_Empty (fun vs H Q E h => ?_) (fun cdv A outer s H vs Q E hr h => ?_)
  · obtain ⟨a, v, rfl, _⟩ := h
    rfl
  · obtain ⟨a, v, rfl, ha, q⟩ := h
    exact ⟨_, pss_cons (ps_ost (pv 0) (pv 1)) (pss_one (ps_ost (pv 0) (pe_cnm (pv 0)))), init_reads O fx N ha fun dx h1 h2 => q dx h1 h2⟩
abbrev s_init_Same : Stmt := (clsBody (top 15)).getD 0 (.Pass ⟨0, 0, 0, 0⟩)
theorem sc_init_Same : FnScope ["self", "what"] ["self", "what"] (defScope s_init_Same) := ⟨rfl, rfl, rfl, by decide +kernel, rfl, by decide +kernel, by decide +kernel⟩
theorem ini_Same {K : PySem.W.Frag} {C fI : Addr} {fd : FuncData} (O : OexC K C) (fx : ExcFacts K C) (N : NmC K C "Same") (F : Fun K "__init__" "Same.__init__" s_init_Same fI fd) (P : Program) (w : World) (mg : Str → Option Value) (base : Heap) : FnOk P w K mg base CX0 1 fI fd ["self", "what"] (sp_mk C "Same") := by
  refine F.ok sc_init_Same (fun vs H Q E h => ?_) (fun cdv A outer s H vs Q E hr h => ?_)
  · obtain ⟨a, v, rfl, _⟩ := h
    rfl
  · obtain ⟨a, v, rfl, ha, q⟩ := h
    exact ⟨_, pss_cons (ps_ost (pv 0) (pv 1)) (pss_one (ps_ost (pv 0) (pe_cnm (pv 0)))), init_reads O fx N ha fun dx h1 h2 => q dx h1 h2⟩
abbrev s_init_Stopped : Stmt := (clsBody (top 16)).getD 0 (.Pass ⟨0, 0, 0, 0⟩)
theorem sc_init_Stopped : FnScope ["self", "what"] ["self", "what"] (defScope s_init_Stopped) := ⟨rfl, rfl, rfl, by decide +kernel, rfl, by decide +kernel, by decide +kernel⟩
theorem ini_Stopped {K : PySem.W.Frag} {C fI : Addr} {fd : FuncData} (O : OexC K C) (fx : ExcFacts K C) (N : NmC K C "Stopped") (F : Fun K "__init__" "Stopped.__init__" s_init_Stopped fI fd) (P : Program) (w : World) (mg : Str → Option Value) (base : Heap) : FnOk P w K mg base CX0 1 fI fd ["self", "what"] (sp_mk C "Stopped") := by
  refine F.ok sc_init_Stopped (fun vs H Q E h => ?_) (fun cdv A outer s H vs Q E hr h => ?_)
  · obtain ⟨a, v, rfl, _⟩ := h
    rfl
  · obtain ⟨a, v, rfl, ha, q⟩ := h
    exact ⟨_, pss_cons (ps_ost (pv 0) (pv 1)) (pss_one (ps_ost (pv 0) (pe_cnm (pv 0)))), init_reads O fx N ha fun dx h1 h2 => q dx h1 h2⟩
abbrev s_init_InWork : Stmt := (clsBody (top 17)).getD 0 (.Pass ⟨0, 0, 0, 0⟩)
theorem sc_init_InWork : FnScope ["self", "what"] ["self", "what"] (defScope s_init_InWork) := ⟨rfl, rfl, rfl, by decide +kernel, rfl, by decide +kernel, by decide +kernel⟩
theorem ini_InWork {K : PySem.W.Frag} {C fI : Addr} {fd : FuncData} (O : OexC K C) (fx : ExcFacts K C) (N : NmC K C "InWork") (F : Fun K "__init__" "InWork.__init__" s_init_InWork fI fd) (P : Program) (w : World) (mg : Str → Option Value) (base : Heap) : FnOk P w K mg base CX0 1 fI fd ["self", "what"] (sp_mk C "InWork") := by
  refine F.ok sc_init_InWork (fun vs H Q E h => ?_) (fun cdv A outer s H vs Q E hr h => ?_)
  · obtain ⟨a, v, rfl, _⟩ := h
    rfl
  · obtain ⟨a, v, rfl, ha, q⟩ := h
    exact ⟨_, pss_cons (ps_ost (pv 0) (pv 1)) (pss_one (ps_ost (pv 0) (pe_cnm (pv 0)))), init_reads O fx N ha fun dx h1 h2 => q dx h1 h2⟩
abbrev s_init_NotReady : Stmt := (clsBody (top 18)).getD 0 (.Pass ⟨0, 0, 0, 0⟩)
theorem sc_init_NotReady : FnScope ["self", "what"] ["self", "what"] (defScope s_init_NotReady) := ⟨rfl, rfl, rfl, by decide +kernel, rfl, by decide +kernel, by decide +kernel⟩
theorem ini_NotReady {K : PySem.W.Frag} {C fI : Addr} {fd : FuncData} (O : OexC K C) (fx : ExcFacts K C) (N : NmC K C "NotReady") (F : Fun K "__init__" "NotReady.__init__" s_init_NotReady fI fd) (P : Program) (w : World) (mg : Str → Option Value) (base : Heap) : FnOk P w K mg base CX0 1 fI fd ["self", "what"] (sp_mk C "NotReady") := by
  refine F.ok sc_init_NotReady (fun vs H Q E h => ?_) (fun cdv A outer s H vs Q E hr h => ?_)
  · obtain ⟨a, v, rfl, _⟩ := h
    rfl
  · obtain ⟨a, v, rfl, ha, q⟩ := h
    exact ⟨_, pss_cons (ps_ost (pv 0) (pv 1)) (pss_one (ps_ost (pv 0) (pe_cnm (pv 0)))), init_reads O fx N ha fun dx h1 h2 => q dx h1 h2⟩
abbrev s_init_TooStrong : Stmt := (clsBody (top 19)).getD 0 (.Pass ⟨0, 0, 0, 0⟩)
theorem sc_init_TooStrong : FnScope ["self", "what"] ["self", "what"] (defScope s_init_TooStrong) := ⟨rfl, rfl, rfl, by decide +kernel, rfl, by decide +kernel, by decide +kernel⟩
theorem ini_TooStrong {K : PySem.W.Frag} {C fI : Addr} {fd : FuncData} (O : OexC K C) (fx : ExcFacts K C) (N : NmC K C "TooStrong") (F : Fun K "__init__" "TooStrong.__init__" s_init_TooStrong fI fd) (P : Program) (w : World) (mg : Str → Option Value) (base : Heap) : FnOk P w K mg base CX0 1 fI fd ["self", "what"] (sp_mk C "TooStrong") := by
  refine F.ok sc_init_TooStrong (fun vs H Q E h => ?_) (fun cdv A outer s H vs Q E hr h => ?_)
  · obtain ⟨a, v, rfl, _⟩ := h
    rfl
  · obtain ⟨a, v, rfl, ha, q⟩ := h
    exact ⟨_, pss_cons (ps_ost (pv 0) (pv 1)) (pss_one (ps_ost (pv 0) (pe_cnm (pv 0)))), init_reads O fx N ha fun dx h1 h2 => q dx h1 h2⟩
abbrev s_init_Cured : Stmt := (clsBody (top 20)).getD 0 (.Pass ⟨0, 0, 0, 0⟩)
theorem sc_init_Cured : FnScope ["self", "what"] ["self", "what"] (defScope s_init_Cured) := ⟨rfl, rfl, rfl, by decide +kernel, rfl, by decide +kernel, by decide +kernel⟩
theorem ini_Cured {K : PySem.W.Frag} {C fI : Addr} {fd : FuncData} (O : OexC K C) (fx : ExcFacts K C) (N : NmC K C "Cured") (F : Fun K "__init__" "Cured.__init__" s_init_Cured fI fd) (P : Program) (w : World) (mg : Str → Option Value) (base : Heap) : FnOk P w K mg base CX0 1 fI fd ["self", "what"] (sp_mk C "Cured") := by
  refine F.ok sc_init_Cured (fun vs H Q E h => ?_) (fun cdv A outer s H vs Q E hr h => ?_)
  · obtain ⟨a, v, rfl, _⟩ := h
    rfl
  · obtain ⟨a, v, rfl, ha, q⟩ := h
    exact ⟨_, pss_cons (ps_ost (pv 0) (pv 1)) (pss_one (ps_ost (pv 0) (pe_cnm (pv 0)))), init_reads O fx N ha fun dx h1 h2 => q dx h1 h2⟩
abbrev s_init_NotCured : Stmt := (clsBody (top 21)).getD 0 (.Pass ⟨0, 0, 0, 0⟩)
theorem sc_init_NotCured : FnScope ["self", "what"] ["self", "what"] (defScope s_init_NotCured) := ⟨rfl, rfl, rfl, by decide +kernel, rfl, by decide +kernel, by decide +kernel⟩
theorem ini_NotCured {K : PySem.W.Frag} {C fI : Addr} {fd : FuncData} (O : OexC K C) (fx : ExcFacts K C) (N : NmC K C "NotCured") (F : Fun K "__init__" "NotCured.__init__" s_init_NotCured fI fd) (P : Program) (w : World) (mg : Str → Option Value) (base : Heap) : FnOk P w K mg base CX0 1 fI fd ["self", "what"] (sp_mk C "NotCured") := by
  refine F.ok sc_init_NotCured (fun vs H Q E h => ?_) (fun cdv A outer s H vs Q E hr h => ?_)
  · obtain ⟨a, v, rfl, _⟩ := h
    rfl
  · obtain ⟨a, v, rfl, ha, q⟩ := h
    exact ⟨_, pss_cons (ps_ost (pv 0) (pv 1)) (pss_one (ps_ost (pv 0) (pe_cnm (pv 0)))), init_reads O fx N ha fun dx h1 h2 => q dx h1 h2⟩
structure All (K : PySem.W.Frag) (mg : Str → Option Value) where
  f_l_cell_at : Addr
  fd_l_cell_at : FuncData
  d_l_cell_at : Def K mg "_law_cell_at" s_l_cell_at f_l_cell_at fd_l_cell_at ["_law_script", "_law_k"]
  f_l_box : Addr
  fd_l_box : FuncData
  d_l_box : Def K mg "_law_box" s_l_box f_l_box fd_l_box ["_law_script", "_law_k"]
  f_l_take : Addr
  fd_l_take : FuncData
  d_l_take : Def K mg "_law_take" s_l_take f_l_take fd_l_take ["_law_box_here", "_law_many"]
  f_l_names : Addr
  fd_l_names : FuncData
  d_l_names : Def K mg "_law_names" s_l_names f_l_names fd_l_names ["_law_box_here", "_law_many"]
  f_l_fits : Addr
  fd_l_fits : FuncData
  d_l_fits : Def K mg "_law_fits" s_l_fits f_l_fits fd_l_fits ["_law_caught"]
  f_l_thing : Addr
  fd_l_thing : FuncData
  d_l_thing : Def K mg "_law_thing" s_l_thing f_l_thing fd_l_thing ["_law_box_here", "_law_sort"]
  f_l_all_made : Addr
  fd_l_all_made : FuncData
  d_l_all_made : Def K mg "_law_all_made" s_l_all_made f_l_all_made fd_l_all_made ["_law_things"]
  f_l_right : Addr
  fd_l_right : FuncData
  d_l_right : Def K mg "_law_right" s_l_right f_l_right fd_l_right ["_law_box_here"]
  f_p_law : Addr
  fd_p_law : FuncData
  d_p_law : Def K mg "law" s_p_law f_p_law fd_p_law ["_law_script"]
  b_ValueError : mg "ValueError" = none
  b_abs : mg "abs" = none
  b_all : mg "all" = none
  b_dict : mg "dict" = none
  b_divmod : mg "divmod" = none
  b_enumerate : mg "enumerate" = none
  b_int : mg "int" = none
  b_isinstance : mg "isinstance" = none
  b_len : mg "len" = none
  b_list : mg "list" = none
  b_min : mg "min" = none
  b_range : mg "range" = none
  b_repr : mg "repr" = none
  C_BoilError : Addr
  g_BoilError : mg "BoilError" = some (.ref C_BoilError)
  R_BoilError : IsRow K C_BoilError "BoilError" veT
  C_BadFrac : Addr
  g_BadFrac : mg "BadFrac" = some (.ref C_BadFrac)
  r_BadFrac : Cls K C_BoilError C_BadFrac "BadFrac"
  C_BadKettles : Addr
  g_BadKettles : mg "BadKettles" = some (.ref C_BadKettles)
  r_BadKettles : Cls K C_BoilError C_BadKettles "BadKettles"
  C_BadMoulds : Addr
  g_BadMoulds : mg "BadMoulds" = some (.ref C_BadMoulds)
  r_BadMoulds : Cls K C_BoilError C_BadMoulds "BadMoulds"
  C_BadRow : Addr
  g_BadRow : mg "BadRow" = some (.ref C_BadRow)
  r_BadRow : Cls K C_BoilError C_BadRow "BadRow"
  C_BadDeed : Addr
  g_BadDeed : mg "BadDeed" = some (.ref C_BadDeed)
  r_BadDeed : Cls K C_BoilError C_BadDeed "BadDeed"
  C_NoKettle : Addr
  g_NoKettle : mg "NoKettle" = some (.ref C_NoKettle)
  r_NoKettle : Cls K C_BoilError C_NoKettle "NoKettle"
  C_NoMould : Addr
  g_NoMould : mg "NoMould" = some (.ref C_NoMould)
  r_NoMould : Cls K C_BoilError C_NoMould "NoMould"
  C_NoShare : Addr
  g_NoShare : mg "NoShare" = some (.ref C_NoShare)
  r_NoShare : Cls K C_BoilError C_NoShare "NoShare"
  C_NoRoom : Addr
  g_NoRoom : mg "NoRoom" = some (.ref C_NoRoom)
  r_NoRoom : Cls K C_BoilError C_NoRoom "NoRoom"
  C_NoHour : Addr
  g_NoHour : mg "NoHour" = some (.ref C_NoHour)
  r_NoHour : Cls K C_BoilError C_NoHour "NoHour"
  C_NoTelling : Addr
  g_NoTelling : mg "NoTelling" = some (.ref C_NoTelling)
  r_NoTelling : Cls K C_BoilError C_NoTelling "NoTelling"
  C_NoSteady : Addr
  g_NoSteady : mg "NoSteady" = some (.ref C_NoSteady)
  r_NoSteady : Cls K C_BoilError C_NoSteady "NoSteady"
  C_Empty : Addr
  g_Empty : mg "Empty" = some (.ref C_Empty)
  r_Empty : Cls K C_BoilError C_Empty "Empty"
  C_Same : Addr
  g_Same : mg "Same" = some (.ref C_Same)
  r_Same : Cls K C_BoilError C_Same "Same"
  C_Stopped : Addr
  g_Stopped : mg "Stopped" = some (.ref C_Stopped)
  r_Stopped : Cls K C_BoilError C_Stopped "Stopped"
  C_InWork : Addr
  g_InWork : mg "InWork" = some (.ref C_InWork)
  r_InWork : Cls K C_BoilError C_InWork "InWork"
  C_NotReady : Addr
  g_NotReady : mg "NotReady" = some (.ref C_NotReady)
  r_NotReady : Cls K C_BoilError C_NotReady "NotReady"
  C_TooStrong : Addr
  g_TooStrong : mg "TooStrong" = some (.ref C_TooStrong)
  r_TooStrong : Cls K C_BoilError C_TooStrong "TooStrong"
  C_Cured : Addr
  g_Cured : mg "Cured" = some (.ref C_Cured)
  r_Cured : Cls K C_BoilError C_Cured "Cured"
  C_NotCured : Addr
  g_NotCured : mg "NotCured" = some (.ref C_NotCured)
  r_NotCured : Cls K C_BoilError C_NotCured "NotCured"
end KR
namespace KR
open PySem PySem.Spec PyProof.Rows L2
section
variable {P : Program} {w : World} {K : PySem.W.Frag} {mg : Str → Option Value} {base : Heap}
def sp_l_cell_at (K : PySem.W.Frag) : Sp := fun vs H Q _ => ∃ (a : Addr) (ns : List Int) (k : Int), vs = [.ref a, .int k] ∧ SqL K H a (ns.map V.int) ∧ 0 ≤ k ∧ ∀ z : Int, Q (.int z) H
theorem ok_l_cell_at (T : All K mg) : FnOk P w K mg base CX0 1 T.f_l_cell_at T.fd_l_cell_at ["_law_script", "_law_k"] (sp_l_cell_at K) := by
  refine T.d_l_cell_at.fn.ok sc_l_cell_at (fun vs H Q E h => ?_) (fun cdv A outer s H vs Q E hr h => ?_)
  · obtain ⟨a, ns, k, rfl, _⟩ := h
    rfl
  · obtain ⟨a, ns, k, rfl, hS, h0, q⟩ := h
    refine ⟨_, (pss_cons (ps_if (pt_cmpR op_lt (pv 1) (pe_callB (lenQ (K := K) rfl) (by rfl) T.b_len PySem.boot_len (pa_cons (pv 0) pa_nil)) (nomark _)) (pss_one (ps_ret (pe_ix (ixL (K := K) rfl) (pv 0) (pv 1) (fun _ _ => rfl)))) pss_nil)
      (pss_one (ps_ret pe_int))), ?_⟩
    refine ⟨_, rfl, _, rfl, a, _, rfl, .inl hS, _, _, rfl, rfl, _, rfl, ite2 (fun c => ?_) (fun c => ?_)⟩
    · have c1 : k < ((ns.map V.int).length : Int) := of_decide_eq_true c
      rw [List.length_map] at c1
      refine ⟨_, rfl, _, rfl, a, _, k, _, rfl, rfl, hS, at_of (j := k.toNat) (by omega) (by rw [List.getElem?_map, List.getElem?_eq_getElem (show k.toNat < ns.length by omega)]; rfl), ?_⟩
      exact q _
    · exact q _

end
end KR
namespace KR
open PySem PySem.Spec PyProof.Rows L2
section
variable {P : Program} {w : World} {K : PySem.W.Frag} {mg : Str → Option Value} {base : Heap}
def sp_l_box (K : PySem.W.Frag) : Sp := fun vs H Q _ => ∃ (a : Addr) (ns : List Int) (k : Int), vs = [.ref a, .int k] ∧ SqL K H a (ns.map V.int) ∧ 0 ≤ k ∧ k ≤ 63 ∧ ∀ p H', Same H H' → H p = none → BoxAt H' p 0 → Q (.ref p) H'
theorem ok_l_box (T : All K mg) : FnOk P w K mg base CX0 2 T.f_l_box T.fd_l_box ["_law_script", "_law_k"] (sp_l_box K) := by
  refine T.d_l_box.fn.ok sc_l_box (fun vs H Q E h => ?_) (fun cdv A outer s H vs Q E hr h => ?_)
  · obtain ⟨a, ns, k, rfl, _⟩ := h
    rfl
  · obtain ⟨a, ns, k, rfl, hS, h0, h1, q⟩ := h
    refine ⟨_, (pss_cons (ps_set (i := 2) sc_l_box.nd rfl (by first | exact Or.inl rfl | exact Or.inr rfl) (pe_call (ok_l_cell_at T) hr (by rfl) T.d_l_cell_at.mg T.d_l_cell_at.fn.kp T.d_l_cell_at.b .nil pass0 (pa_cons (pv 0) (pa_cons (pv 1) pa_nil))))
      (pss_one (ps_ret (pe_lstI (pa_cons (pe_op op_mulX (pe_callB call_abs (by rfl) T.b_abs (by decide +kernel) (pa_cons (pv 2) pa_nil)) (pe_callTy call_int1 (by rfl) T.b_int (by decide +kernel) (pa_cons (pe_cmpR op_ge (pe_callB call_abs (by rfl) T.b_abs (by decide +kernel) (pa_cons (pv 2) pa_nil)) (pe_op op_pow pe_int pe_int) (nomark _)) pa_nil))) (pa_cons (pe_op op_add (pe_op op_add (pe_op op_mod (pv 2) pe_int) (pe_op op_mulX pe_int (pv 1))) pe_int) (pa_cons pe_int pa_nil))))))), ?_⟩
    refine ⟨_, rfl, _, rfl, a, ns, k, rfl, hS, h0, fun z => ?_⟩
    refine ⟨_, rfl, _, rfl, _, rfl, _, rfl, _, _, rfl, rfl, ⟨by decide, by decide, by decide⟩, _, _, rfl, rfl, .inr ⟨_, rfl, ?_⟩⟩
    refine ⟨_, _, rfl, rfl, mulR bit_lt, ?_⟩
    refine ⟨_, rfl, _, _, rfl, rfl, (by show (0 : Int) < 2305843009213693951; decide), _, rfl, _, _, rfl, rfl, mulL (by decide), _, _, rfl, rfl, _, _, rfl, rfl, rfl, fun p H1 s1 hp h1 => ?_⟩
    refine q p _ s1 hp ⟨_, _, _, h1, ?_, ?_, ?_, by decide, by decide⟩
    · refine Int.mul_nonneg (by split <;> omega) bit_nn
    · omega
    · omega

end
end KR
namespace KR
open PySem PySem.Spec PyProof.Rows L2
section
variable {P : Program} {w : World} {K : PySem.W.Frag} {mg : Str → Option Value} {base : Heap}
def sp_l_take : Sp := fun vs H Q _ => ∃ (p : Addr) (m : Int) (n : Nat), vs = [.ref p, .int m] ∧ BoxAt H p n ∧ n ≤ 1000000000 ∧ 0 < m ∧ m.natAbs < 2 ^ 200 ∧ ∀ (z : Int) (H' : Hp), 0 ≤ z → z < m → BoxAt H' p (n + 1) → Fr p H H' → Q (.int z) H'
theorem ok_l_take (T : All K mg) : FnOk P w K mg base CX0 1 T.f_l_take T.fd_l_take ["_law_box_here", "_law_many"] sp_l_take := by
  refine T.d_l_take.fn.ok sc_l_take (fun vs H Q E h => ?_) (fun cdv A outer s H vs Q E hr h => ?_)
  · obtain ⟨p, m, n, rfl, _⟩ := h
    rfl
  · obtain ⟨p, m, n, rfl, hB, hn, h0, hm, q⟩ := h
    obtain ⟨a, b, c, hp, ha, hb, hb2, hc, hcn⟩ := hB
    refine ⟨_, (pss_cons (ps_if (pt_cmpR op_gt (pe_ix (ixL (K := K) rfl) (pv 0) pe_int (fun _ _ => rfl)) pe_int (nomark _)) (pss_cons (ps_set (i := 2) sc_l_take.nd rfl (by first | exact Or.inl rfl | exact Or.inr rfl) (pe_op op_mod (pe_ix (ixL (K := K) rfl) (pv 0) pe_int (fun _ _ => rfl)) (pv 1)))
      (pss_cons (ps_asg (pe_op op_fdivW (pe_ix (ixL (K := K) rfl) (pv 0) pe_int (fun _ _ => rfl)) (pv 1)) (pg_sub (pv 0) pe_int set_list))
      (pss_one (ps_ret (pv 2))))) pss_nil)
      (pss_cons (ps_asg (pe_op op_add (pe_ix (ixL (K := K) rfl) (pv 0) pe_int (fun _ _ => rfl)) pe_int) (pg_sub (pv 0) pe_int set_list))
      (pss_cons (ps_set (i := 3) sc_l_take.nd rfl (by first | exact Or.inl rfl | exact Or.inr rfl) (pe_op op_mod (pe_op op_mulX (pe_op op_add (pe_ix (ixL (K := K) rfl) (pv 0) pe_int (fun _ _ => rfl)) (pe_op op_mulX pe_int (pe_ix (ixL (K := K) rfl) (pv 0) pe_int (fun _ _ => rfl)))) (pe_op op_add pe_int (pe_ix (ixL (K := K) rfl) (pv 0) pe_int (fun _ _ => rfl)))) pe_int))
      (pss_cons (ps_set (i := 4) sc_l_take.nd rfl (by first | exact Or.inl rfl | exact Or.inr rfl) (pe_op op_mod (pe_op op_mulX (pe_op op_add (pv 3) (pe_ix (ixL (K := K) rfl) (pv 0) pe_int (fun _ _ => rfl))) (pe_op op_add (pe_op op_mod (pv 3) pe_int) pe_int)) pe_int))
      (pss_one (ps_ret (pe_op op_mod (pe_op op_fdivW (pe_op op_mod (pe_op op_add (pe_op op_mulX (pv 4) pe_int) (pv 3)) pe_int) pe_int) (pv 1)))))))), ?_⟩
    refine ⟨_, rfl, p, _, 0, _, rfl, rfl, SqL.of hp, at0, _, _, rfl, rfl, _, rfl, ite2 (fun c1 => ?_) (fun c1 => ?_)⟩
    · refine ⟨_, rfl, p, _, 0, _, rfl, rfl, SqL.of hp, at0, _, rfl, _, _, rfl, rfl, h0, ?_⟩
      refine ⟨_, rfl, p, _, 0, _, rfl, rfl, SqL.of hp, at0, _, rfl, _, _, rfl, rfl, wide_div h0 hm (by decide) (by decide), ?_⟩
      refine ⟨_, rfl, p, _, 0, 0, rfl, rfl, hp, rfl, ?_⟩
      refine ⟨_, rfl, ?_⟩
      refine q _ _ (Int.emod_nonneg _ (by omega)) (Int.emod_lt_of_pos _ h0) ⟨_, _, _, upd_same, ?_, hb, hb2, hc, by omega⟩ (Fr.put Fr.refl)
      exact Int.ediv_nonneg ha (by omega)
    · refine ⟨_, rfl, p, _, 2, _, rfl, rfl, SqL.of hp, at2, _, _, rfl, rfl, _, rfl, p, _, 2, 2, rfl, rfl, hp, rfl, ?_⟩
      have hp2 : (upd H p (.lst [.int a, .int b, .int (c + 1)])) p = some (.lst [.int a, .int b, .int (c + 1)]) := upd_same
      refine ⟨_, rfl, p, _, 1, _, rfl, rfl, SqL.of hp2, at1, _, rfl, p, _, 2, _, rfl, rfl, SqL.of hp2, at2, _, _, rfl, rfl, mulL (by decide), _, _, rfl, rfl, ?_⟩
      refine ⟨_, rfl, p, _, 2, _, rfl, rfl, SqL.of hp2, at2, _, _, rfl, rfl, _, _, rfl, rfl, mulL (by omega), _, _, rfl, rfl, (by show (0 : Int) < 2147483647; decide), ?_⟩
      generalize e1 : (b + 48271 * (c + 1)) * (39373 + (c + 1)) % 2147483647 = o
      have o1 : 0 ≤ o ∧ o < 2147483647 := by omega
      refine ⟨_, rfl, _, rfl, p, _, 2, _, rfl, rfl, SqL.of hp2, at2, _, _, rfl, rfl, _, rfl, _, _, rfl, rfl, (by show (0 : Int) < 40009; decide), _, _, rfl, rfl, _, _, rfl, rfl, mulL (by omega), _, _, rfl, rfl, (by show (0 : Int) < 2147483629; decide), ?_⟩
      generalize e2 : (o + (c + 1)) * (o % 40009 + 7) % 2147483629 = t
      have t1 : 0 ≤ t ∧ t < 2147483629 := by omega
      refine ⟨_, rfl, _, _, rfl, rfl, mulL (by omega), _, rfl, _, _, rfl, rfl, _, _, rfl, rfl, (by show (0 : Int) < 2147483587; decide), _, _, rfl, rfl, wide_div (b := 10) (by decide) (by decide) (by decide) (by decide), _, rfl, _, _, rfl, rfl, h0, ?_⟩
      exact q _ _ (Int.emod_nonneg _ (by omega)) (Int.emod_lt_of_pos _ h0) ⟨_, _, _, upd_same, ha, hb, hb2, by omega, by omega⟩ (Fr.put Fr.refl)

end
end KR
namespace KR
open PySem PySem.Spec PyProof.Rows L2
section
variable {P : Program} {w : World} {K : PySem.W.Frag} {mg : Str → Option Value} {base : Heap}
/-! ### texts of signs below 128, of so many at most -/
structure Gd (n : Nat) (y : Str) : Prop where
  len : y.length ≤ n
  ok : ∀ c ∈ TL.tl y, c < 128
theorem Gd.up {n m : Nat} {y : Str} (h : Gd n y) (le : n ≤ m) : Gd m y := ⟨Nat.le_trans h.len le, h.ok⟩
theorem Gd.cut {n : Nat} {y : Str} (h : Gd n y) (lo hi : Option Int) : Gd n (cutS y lo hi) := by
  refine ⟨Nat.le_trans (cutS_length y lo hi) h.len, fun c hc => h.ok c ?_⟩
  have hc' : c ∈ (y.cps.toList.drop (HT.sIx y.length 0 lo)).take (HT.sIx y.length y.length hi - HT.sIx y.length 0 lo) := hc
  exact List.mem_of_mem_drop (List.mem_of_mem_take hc')
theorem Gd.app {n m : Nat} {x y : Str} (h : Gd n x) (k : Gd m y) : Gd (n + m) (x ++ y) := by
  have e : TL.tl (x ++ y) = TL.tl x ++ TL.tl y := TL.tl_append x y
  refine ⟨?_, fun c hc => ?_⟩
  · rw [TL.len_tl, e, List.length_append, ← TL.len_tl, ← TL.len_tl]
    have := h.len
    have := k.len
    omega
  · rw [e] at hc
    rcases List.mem_append.mp hc with z | z
    · exact h.ok c z
    · exact k.ok c z
theorem Gd.fit {n : Nat} {y : Str} (h : Gd n y) (le : n ≤ 100000) : y.length ≤ sizeLine := small (Nat.le_trans h.len le)
theorem Gd.two {n m : Nat} {x y : Str} (h : Gd n x) (k : Gd m y) (le : n + m ≤ 100000) : x.length + y.length ≤ sizeLine := small (Nat.le_trans (Nat.add_le_add h.len k.len) le)
theorem Gd.one {c : Nat} (h : c < 128) : Gd 1 (S [c]) := ⟨Nat.le_refl 1, fun d hd => by rw [List.mem_singleton.mp hd]; exact h⟩
theorem Gd.of {l : List Nat} {n : Nat} (h : l.length ≤ n) (k : ∀ c ∈ l, c < 128) : Gd n (S l) := ⟨by rw [S_len]; exact h, k⟩
def sp_l_names : Sp := fun vs H Q _ => ∃ (p : Addr) (n : Nat), vs = [.ref p, .int 1] ∧ BoxAt H p n ∧ n ≤ 999990000 ∧ ∀ (l : Addr) (y : Str) (H' : Hp), H' l = some (.lst [.str y]) → Gd 30 y → BoxAt H' p (n + 10) → Fr p H H' → Q (.ref l) H'
abbrev lets : Str := "abcdefghijklmnoprstuvwxyz"
theorem gd_rep {c m : Nat} (hc : c < 128) (hm : m < 6) : Gd 5 (Txt.mul (S [c]) (m : Int)) := by
  have all : ∀ (l : List Nat), (∀ d ∈ l, d = c) → ∀ d ∈ l, d < 128 := fun l h d hd => by rw [h d hd]; exact hc
  have ms : m = 0 ∨ m = 1 ∨ m = 2 ∨ m = 3 ∨ m = 4 ∨ m = 5 := by omega
  rcases ms with rfl | rfl | rfl | rfl | rfl | rfl
  · exact (show Gd 5 (S []) from Gd.of (by decide) (all _ (by simp)))
  · exact (show Gd 5 (S [c]) from Gd.of (by show 1 ≤ 5; decide) (all _ (by simp)))
  · exact (show Gd 5 (S [c, c]) from Gd.of (by show 2 ≤ 5; decide) (all _ (by simp)))
  · exact (show Gd 5 (S [c, c, c]) from Gd.of (by show 3 ≤ 5; decide) (all _ (by simp)))
  · exact (show Gd 5 (S [c, c, c, c]) from Gd.of (by show 4 ≤ 5; decide) (all _ (by simp)))
  · exact (show Gd 5 (S [c, c, c, c, c]) from Gd.of (by show 5 ≤ 5; decide) (all _ (by simp)))
theorem let_at {y : Int} (h0 : 0 ≤ y) (h1 : y < 25) : ∃ c, atI lets.cps.toList y = some c ∧ c < 128 := by
  obtain ⟨k, rfl⟩ : ∃ k : Nat, y = (k : Int) := ⟨y.toNat, by omega⟩
  have hl : lets.cps.toList.length = 25 := by decide +kernel
  have al : ∀ c ∈ lets.cps.toList, c < 128 := by decide +kernel
  exact ⟨_, atI_nat (j := k) (List.getElem?_eq_getElem (by omega)), al _ (List.getElem_mem (by omega))⟩
theorem lets_len : lets.length ≤ sizeLine := small (by decide +kernel)
theorem cut_first (x : V) (xs : List V) : cutV (x :: xs) none (some 1) = [x] := by
  have e1 : HT.sIx (x :: xs).length (x :: xs).length (some 1) = min 1 (x :: xs).length := HT.sIx_nat (x :: xs).length (x :: xs).length 1
  unfold cutV
  rw [e1, HT.sIx_none, List.drop_zero, Nat.sub_zero, Nat.min_eq_left (by rw [List.length_cons]; omega)] <;> rfl
theorem merge_head : ∀ (more kvs : List (Key × V)) (k : Key) (v : V), ∃ v' r, mergeK ((k, v) :: kvs) more = (k, v') :: r
  | [], kvs, k, v => ⟨v, kvs, rfl⟩
  | (k2, v2) :: more, kvs, k, v => by
    show ∃ v' r, mergeK (putK ((k, v) :: kvs) k2 v2) more = (k, v') :: r
    unfold putK
    split
    · rw [List.map_cons]
      by_cases e : k = k2
      · rw [if_pos e]
        exact merge_head more _ k v2
      · rw [if_neg e]
        exact merge_head more _ k v
    · exact merge_head more _ k v
theorem merge_first (k : Key) (v : V) (more : List (Key × V)) : ∃ v' r, mergeK [] ((k, v) :: more) = (k, v') :: r := merge_head more [] k v
theorem pairs_of {K : PySem.W.Frag} {H : Hp} : ∀ (l : List (Addr × Str)), (∀ z ∈ l, H z.1 = some (.tup [.str z.2, .bl true])) → Paired (fun p (kv : Key × V) => SqT K H p [kV kv.1, kv.2]) (l.map (·.1)) (l.map fun z => (Sum.inr z.2, V.bl true))
  | [], _ => .nil
  | z :: l, h => .cons (SqT.of (h z List.mem_cons_self)) (pairs_of l fun y hy => h y (List.mem_cons_of_mem _ hy))
theorem ok_l_names (T : All K mg) : FnOk P w K mg base CX0 2 T.f_l_names T.fd_l_names ["_law_box_here", "_law_many"] sp_l_names := by
  refine T.d_l_names.fn.ok sc_l_names (fun vs H Q E h => ?_) (fun cdv A outer s H vs Q E hr h => ?_)
  · obtain ⟨p, n, rfl, _⟩ := h
    rfl
  · obtain ⟨p, n, rfl, hB, hn, q⟩ := h
    refine ⟨_, (pss_cons (ps_par (i := 2) (j := 3) (by rfl) sc_l_names.nd rfl rfl (by decide) rfl rfl (pa_cons pe_str (pa_cons (pe_lstI pa_nil) pa_nil)) (by rfl))
      (pss_cons (ps_J (ps_if (pt_cmpR op_eq (pe_call (ok_l_take T) hr (by rfl) T.d_l_take.mg T.d_l_take.fn.kp T.d_l_take.b .nil pass0 (pa_cons (pv 0) (pa_cons pe_int pa_nil))) pe_int (nomark _)) (pss_cons (ps_set (i := 3) sc_l_names.nd rfl (by first | exact Or.inl rfl | exact Or.inr rfl) (pe_split pe_str pe_str))
      (pss_one (ps_set (i := 3) sc_l_names.nd rfl (by first | exact Or.inl rfl | exact Or.inr rfl) (pe_op op_catI (pv 3) (pe_lstI (pa_cons pe_str (pa_cons pe_str pa_nil))))))) pss_nil))
      (pss_cons (ps_par (i := 4) (j := 5) (by rfl) sc_l_names.nd rfl rfl (by decide) rfl rfl (pa_cons (pe_call (ok_l_take T) hr (by rfl) T.d_l_take.mg T.d_l_take.fn.kp T.d_l_take.b .nil pass0 (pa_cons (pv 0) (pa_cons pe_int pa_nil))) (pa_cons (pe_ix (ixL (K := K) rfl) (pe_lstI (pa_cons pe_int (pa_cons pe_int (pa_cons pe_int (pa_cons pe_int pa_nil))))) (pe_call (ok_l_take T) hr (by rfl) T.d_l_take.mg T.d_l_take.fn.kp T.d_l_take.b .nil pass0 (pa_cons (pv 0) (pa_cons pe_int pa_nil))) (fun _ _ => rfl)) pa_nil)) (by rfl))
      (pss_cons (ps_par (i := 6) (j := 7) (by rfl) sc_l_names.nd rfl rfl (by decide) rfl rfl (pa_cons (pe_op op_mul_str (pe_ix ix_str (pv 2) (pe_call (ok_l_take T) hr (by rfl) T.d_l_take.mg T.d_l_take.fn.kp T.d_l_take.b .nil pass0 (pa_cons (pv 0) (pa_cons pe_int pa_nil))) (fun _ _ => rfl)) (pe_call (ok_l_take T) hr (by rfl) T.d_l_take.mg T.d_l_take.fn.kp T.d_l_take.b .nil pass0 (pa_cons (pv 0) (pa_cons pe_int pa_nil)))) (pa_cons (pe_ix ix_str (pv 2) (pe_call (ok_l_take T) hr (by rfl) T.d_l_take.mg T.d_l_take.fn.kp T.d_l_take.b .nil pass0 (pa_cons (pv 0) (pa_cons pe_int pa_nil))) (fun _ _ => rfl)) pa_nil)) (by rfl))
      (pss_cons (ps_for PassesOwn.never rfl (pi_range1 (by rfl) T.b_range (pa_cons (pv 1) pa_nil)) (pg_name (i := 8) sc_l_names.nd rfl (by first | exact Or.inl rfl | exact Or.inr rfl)) (pss_cons (ps_asg (pe_callB call_divmodW (by rfl) T.b_divmod (by decide +kernel) (pa_cons (pe_op op_mod (pe_op op_add (pv 4) (pe_op op_mulX (pv 5) (pv 8))) pe_int) (pa_cons pe_int pa_nil))) (pg_tupK (K := K) rfl rfl (pgs_cons (pg_name (i := 9) sc_l_names.nd rfl (by first | exact Or.inl rfl | exact Or.inr rfl)) (pgs_cons (pg_name (i := 10) sc_l_names.nd rfl (by first | exact Or.inl rfl | exact Or.inr rfl)) pgs_nil))))
      (pss_cons (ps_set (i := 11) sc_l_names.nd rfl (by first | exact Or.inl rfl | exact Or.inr rfl) (pe_op op_add_str (pe_op op_add_str (pv 6) (pe_ix ix_str (pv 2) (pv 9) (fun _ _ => rfl))) (pe_ix ix_str (pv 2) (pv 10) (fun _ _ => rfl))))
      (pss_one (ps_expr (pe_bm PySem.F.plainAttrs_list PySem.F.slot_list_extend PySem.F.type_list_extend mt_extend (pv 3) (pa_cons (pe_slice (slL (K := K) rfl) (pe_lstI (pa_cons (pv 11) (pa_cons (pe_op op_add_str (pv 11) (pv 7)) pa_nil))) po_none (po_some (pe_op op_add pe_int (pe_callTy call_int1 (by rfl) T.b_int (by decide +kernel) (pa_cons (pe_cmpR op_eq (pe_op op_mod (pv 8) pe_int) pe_int (nomark _)) pa_nil))))) pa_nil)))))))
      (pss_one (ps_ret (pe_slice (slL (K := K) rfl) (pe_callTy (call_listD rfl) (by rfl) T.b_list (by decide +kernel) (pa_cons (pe_callTy (call_dictP rfl) (by rfl) T.b_dict (by decide +kernel) (pa_cons (pe_lc (own := [("_law_name", 11)]) (g := gName 11) (tt := tYes) (by rfl) sc_l_names.nd (pi_listK (K := K) rfl (pv 3)) (blkOk_by (own := [("_law_name", 11)]) (N := ["_law_box_here", "_law_many", "_law_letters", "_law_found", "_law_first", "_law_step", "_law_stem", "_law_tail", "_law_k", "_law_one", "_law_other", "_law_name"]) (sc := defScope s_l_names) (by decide +kernel)) (fun _ _ _ _ _ => (pg_name (i := 11) sc_l_names.nd rfl (by first | exact Or.inl rfl | exact Or.inr rfl))) (fun _ _ _ _ _ => pts_nil) (fun _ _ _ _ _ => (pe_tupI (pa_cons (pv 11) (pa_cons pe_bl pa_nil))))) pa_nil)) pa_nil)) po_none (po_some (pv 1)))))))))), ?_⟩
    refine ⟨rfl, fun fl0 H1 s1 n1 h1 => ⟨_, _, rfl, ?_⟩⟩
    refine ⟨fun σ' H' => ∃ (fl : Addr) (ts : List Str), σ' = [some (.ref p), some (.int 1), some (.str lets), some (.ref fl), none, none, none, none, none, none, none, none] ∧ H' fl = some (.lst (ts.map V.str)) ∧ (∀ y ∈ ts, Gd 9 y) ∧ ts.length ≤ 20 ∧ BoxAt H' p (n + 1) ∧ Fr p H H' ∧ fl ≠ p ∧ H fl = none, ?_, ?_⟩
    rotate_left
    · refine ⟨_, rfl, p, 3, n, rfl, hB.same s1, by omega, by decide, by decide, fun z H2 z0 z1 B2 F2 => ?_⟩
      refine ⟨rfl, _, rfl, ite2 (fun c => ?_) (fun c => ⟨fl0, [], rfl, F2 _ _ (hB.new n1) h1, fun y hy => absurd hy List.not_mem_nil, by decide, B2, (Fr.of s1).trans F2, hB.new n1, n1⟩)⟩
      refine ⟨⟨_, rfl⟩, _, _, rfl, rfl, rfl, small (by decide +kernel), fun fl hfl => ?_⟩
      have sm := same_new (o := .lst ((Txt.split ("kettle mould at juice ladle skim stop start strike drain knock drips untell vat" : Str) (" " : Str)).map V.str)) hfl
      have hf : (upd H2 fl (.lst ((Txt.split ("kettle mould at juice ladle skim stop start strike drain knock drips untell vat" : Str) (" " : Str)).map V.str))) fl = _ := upd_same
      have lg : ∀ y ∈ Txt.split ("kettle mould at juice ladle skim stop start strike drain knock drips untell vat" : Str) (" " : Str) ++ [("sums" : Str), ("never" : Str)], y.length ≤ 9 ∧ ∀ c ∈ TL.tl y, c < 128 := by decide +kernel
      have ll : (Txt.split ("kettle mould at juice ladle skim stop start strike drain knock drips untell vat" : Str) (" " : Str) ++ [("sums" : Str), ("never" : Str)]).length ≤ 20 := by decide +kernel
      generalize Txt.split ("kettle mould at juice ladle skim stop start strike drain knock drips untell vat" : Str) (" " : Str) = ws at sm hf lg ll
      refine ⟨_, rfl, rfl, fun l2 H3 s3 n3 h3 => ?_⟩
      have lw : ws.length ≤ 18 := by
        rw [List.length_append] at ll
        have : ([("sums" : Str), ("never" : Str)] : List Str).length = 2 := rfl
        omega
      refine ⟨fl, l2, _, _, rfl, rfl, s3 _ _ hf, h3, small (by rw [List.length_map]; show ws.length + 2 ≤ 100000; omega), fun l3 H4 s4 n4 h4 => ?_⟩
      have B4 := B2.same (sm.trans (s3.trans s4))
      have F4 : Fr p H H4 := (Fr.of s1).trans (F2.trans (.of (sm.trans (s3.trans s4))))
      have n3' : H2 l3 = none := sm.free (s3.free n4)
      exact ⟨l3, ws ++ [("sums" : Str), ("never" : Str)], rfl, by rw [h4, List.map_append] <;> rfl, fun y hy => ⟨(lg y hy).1, (lg y hy).2⟩, ll, B4, F4, B2.new n3', s1.free (by obtain ⟨o, ho⟩ := B2.some; exact F2.free ho n3')⟩
    rintro σ' H2 ⟨fl, ts, rfl, hf, gt, lt, B2, F2, nfl, nof⟩
    refine ⟨_, rfl, p, 625, n + 1, rfl, B2, by omega, by decide, by decide, fun a H3 a0 a1 B3 F3 => ?_⟩
    refine ⟨rfl, fun ls H4 s4 n4 h4 => ?_⟩
    have B4 := B3.same s4
    have nls := B3.new n4
    refine ⟨_, rfl, p, 4, n + 2, rfl, B4, by omega, by decide, by decide, fun k H5 k0 k1 B5 F5 => ?_⟩
    obtain ⟨st, es, st0, st9⟩ : ∃ st : Int, atI ([.int 1, .int 26, .int 7, .int 251] : List V) k = some (.int st) ∧ 0 ≤ st ∧ st ≤ 251 := by
      have ks : k = 0 ∨ k = 1 ∨ k = 2 ∨ k = 3 := by omega
      rcases ks with e | e | e | e <;> subst e
      · exact ⟨_, rfl, by decide, by decide⟩
      · exact ⟨_, rfl, by decide, by decide⟩
      · exact ⟨_, rfl, by decide, by decide⟩
      · exact ⟨_, rfl, by decide, by decide⟩
    refine ⟨ls, _, k, _, rfl, rfl, SqL.of (F5 _ _ nls h4), es, ?_⟩
    refine ⟨_, _, rfl, ?_⟩
    refine ⟨_, rfl, _, rfl, p, 25, n + 3, rfl, B5, by omega, by decide, by decide, fun u H6 u0 u1 B6 F6 => ?_⟩
    obtain ⟨c1, e1, g1⟩ := let_at u0 u1
    refine ⟨_, _, c1, rfl, rfl, lets_len, e1, ?_⟩
    refine ⟨_, rfl, p, 6, n + 4, rfl, B6, by omega, by decide, by decide, fun v H7 v0 v1 B7 F7 => ?_⟩
    obtain ⟨m, rfl⟩ : ∃ m : Nat, v = (m : Int) := ⟨v.toNat, by omega⟩
    refine ⟨_, m, rfl, rfl, by show 1 * m ≤ 100000; omega, by omega, ?_⟩
    have gst : Gd 5 (Txt.mul (S [c1]) (m : Int)) := gd_rep g1 (by omega)
    have est : Txt.mul ⟨#[c1]⟩ (m : Int) = Txt.mul (S [c1]) (m : Int) := rfl
    rw [est]
    generalize Txt.mul (S [c1]) (m : Int) = stem at gst
    refine ⟨_, rfl, _, rfl, p, 25, n + 5, rfl, B7, by omega, by decide, by decide, fun u' H8 u0' u1' B8 F8 => ?_⟩
    obtain ⟨c2, e2, g2⟩ := let_at u0' u1'
    refine ⟨_, _, c2, rfl, rfl, lets_len, e2, ?_⟩
    refine ⟨_, _, rfl, ?_⟩
    have gtl : Gd 1 (S [c2]) := Gd.one g2
    have F28 : Fr p H2 H8 := F3.trans ((Fr.of s4).trans (F5.trans (F6.trans (F7.trans F8))))
    have hf8 := F28 _ _ nfl hf
    refine ⟨_, rfl, 1, rfl, by decide, by decide, for_range (lo := 0) (n := 1) (fun i σ H' => ∃ (ts' : List Str) (v8 v9 v10 v11 : Option V), σ = [some (.ref p), some (.int 1), some (.str lets), some (.ref fl), some (.int a), some (.int st), some (.str stem), some (.str (S [c2])), v8, v9, v10, v11] ∧ H' fl = some (.lst (ts'.map V.str)) ∧ (∀ y ∈ ts', Gd 12 y) ∧ ts'.length ≤ 30 + i ∧ (i = 1 → ts' ≠ []) ∧ BoxAt H' p (n + 6) ∧ Fr p H H')
      ⟨ts, none, none, none, none, rfl, hf8, fun y hy => (gt y hy).up (by decide), by omega, fun e => absurd e (by decide), B8, F2.trans F28⟩ ?_ ?_⟩
    · rintro i σ H9 hi ⟨ts', v8, v9, v10, v11, rfl, hf9, gt9, lt9, _, B9, F9⟩
      have i0 : i = 0 := by omega
      subst i0
      refine ⟨_, rfl, _, rfl, _, rfl, _, _, rfl, rfl, mulL (by omega), _, _, rfl, rfl, _, _, rfl, rfl, (by show (0 : Int) < 625; decide), ?_⟩
      have X0 := Int.emod_nonneg (a + st * (0 + ((0 : Nat) : Int))) (by decide : (625 : Int) ≠ 0)
      have X1 := Int.emod_lt_of_pos (a + st * (0 + ((0 : Nat) : Int))) (by decide : (0 : Int) < 625)
      refine ⟨_, _, rfl, ⟨by decide, PyProof.noPylong_of_log2 (by decide +kernel)⟩, fun dp hdp => ?_⟩
      have sm := same_new (o := .tup [.int ((a + st * (0 + ((0 : Nat) : Int))) % 625 / 25), .int ((a + st * (0 + ((0 : Nat) : Int))) % 625 % 25)]) hdp
      refine ⟨dp, _, rfl, SqT.of upd_same, rfl, _, _, rfl, _, _, rfl, rfl, ?_⟩
      obtain ⟨c3, e3, g3⟩ := let_at (y := (a + st * (0 + ((0 : Nat) : Int))) % 625 / 25) (Int.ediv_nonneg X0 (by decide)) (by omega)
      obtain ⟨c4, e4, g4⟩ := let_at (y := (a + st * (0 + ((0 : Nat) : Int))) % 625 % 25) (Int.emod_nonneg _ (by decide)) (Int.emod_lt_of_pos _ (by decide))
      have gn := (gst.app (Gd.one g3)).app (Gd.one g4)
      refine ⟨_, rfl, _, rfl, _, rfl, _, _, c3, rfl, rfl, lets_len, e3, _, _, rfl, rfl, Gd.two gst (Gd.one g3) (by decide), _, rfl, _, rfl, _, _, c4, rfl, rfl, lets_len, e4, _, _, rfl, rfl, Gd.two (gst.app (Gd.one g3)) (Gd.one g4) (by decide), ?_⟩
      have hfa := sm _ _ hf9
      refine ⟨_, rfl, .inl ⟨rfl, _, SqL.of hfa⟩, ?_⟩
      refine ⟨_, rfl, _, rfl, _, rfl, _, _, rfl, rfl, Gd.two gn gtl (by decide), rfl, fun sl Hb sb nb hb => ?_⟩
      refine ⟨_, rfl, _, _, rfl, rfl, (by show (0 : Int) < 4; decide), rfl, .inr ⟨_, rfl, _, _, rfl, rfl, _, rfl, ?_⟩⟩
      refine ⟨sl, _, rfl, SqL.of hb, fun p2 Hc sc nc hc => ?_⟩
      refine ⟨fl, p2, _, _, rfl, rfl, sc _ _ (sb _ _ hfa), hc, ?_, ?_⟩
      · refine small (Nat.le_trans (Nat.add_le_add_left (cutV_length _ _ _) _) ?_)
        rw [List.length_map]
        show ts'.length + 2 ≤ 100000
        omega
      have sE := sm.trans (sb.trans sc)
      refine ⟨ts' ++ [stem ++ S [c3] ++ S [c4]], _, _, _, _, rfl, ?_, fun y hy => ?_, by rw [List.length_append]; show ts'.length + 1 ≤ 30 + (0 + 1); omega, fun _ z => by simp at z, (B9.same sE).upd nfl, Fr.put' (F9.trans (.of sE)) nof⟩
      · rw [upd_same, List.map_append]
        congr 3
      · rcases List.mem_append.mp hy with h | h
        · exact gt9 y h
        · rw [List.mem_singleton.mp h]
          exact gn.up (by decide)
    · rintro σ H9 ⟨ts', v8, v9, v10, v11, rfl, hf9, gt9, lt9, ne9, B9, F9⟩
      refine ⟨_, rfl, fl, rfl, ⟨_, SqL.of hf9⟩, fun D hD => ?_⟩
      refine lc_list (K := K) (a := fl) (xs := ts'.map V.str) (fun i H' => ∃ l : List (Addr × Str), Same H9 H' ∧ H' D = some (.lst (l.map fun z => V.ref z.1)) ∧ l.map (·.2) = ts'.take i ∧ ∀ z ∈ l, H' z.1 = some (.tup [.str z.2, .bl true])) ⟨[], same_new hD, upd_same, rfl, fun z hz => absurd hz List.not_mem_nil⟩ (fun i H' _ ⟨_, sm, _⟩ => SqL.of (sm _ _ hf9)) (fun i z H' hz w => ?_) ?_
      · obtain ⟨l, sm, hl, el, al⟩ := w
        rw [List.getElem?_map] at hz
        cases e : ts'[i]? with
        | none =>
          rw [e] at hz
          cases hz
        | some y =>
          rw [e] at hz
          obtain rfl : V.str y = z := Option.some.inj hz
          have i30 : i < 31 := by
            have := (List.getElem?_eq_some_iff.mp e).1
            omega
          refine ⟨rfl, yesT ?_⟩
          refine ⟨_, rfl, rfl, fun tp Ha sa na ha => ?_⟩
          have hla := sa _ _ hl
          have ll : l.length ≤ 31 := by
            have := congrArg List.length el
            rw [List.length_map, List.length_take] at this
            omega
          refine ⟨_, hla, by rw [List.length_map]; exact small' (by omega), l ++ [(tp, y)], Same.put (sm.trans sa) hD, by rw [upd_same, List.map_append] <;> rfl, by rw [List.map_append, el, take_one e] <;> rfl, fun u hu => ?_⟩
          have keep : ∀ c xs, Ha c = some (.tup xs) → (upd Ha D (.lst ((l.map fun z => V.ref z.1) ++ [V.ref tp]))) c = some (.tup xs) := fun c xs e => by
            rw [upd_ne (ne_of e hla (by intro z; cases z))]
            exact e
          rcases List.mem_append.mp hu with h | h
          · exact keep _ _ (sa _ _ (al u h))
          · obtain rfl := List.mem_singleton.mp h
            exact keep _ _ ha
      rintro Ha ⟨l, sm, hl, el, al⟩
      rw [List.length_map, List.take_length] at el
      have hl2 : Ha D = some (.lst ((l.map (·.1)).map V.ref)) := by
        rw [hl, List.map_map] <;> rfl
      refine ⟨D, _, _, rfl, SqL.of hl2, pairs_of l al, fun dd hdd => ?_⟩
      have s2 := same_new (o := .dK (mergeK [] (l.map fun z => (Sum.inr z.2, V.bl true)))) hdd
      refine ⟨dd, _, rfl, .inl upd_same, fun lk hlk => ?_⟩
      refine ⟨_, rfl, _, rfl, lk, _, rfl, SqL.of upd_same, fun r Hz sz nz hz => ?_⟩
      have ne := ne9 rfl
      match l, el, ne, hz with
      | [], el, ne, _ => exact absurd el.symm (by intro z; exact ne z)
      | (c, y) :: l', el, _, hz =>
        obtain ⟨v', r', em⟩ := merge_first (Sum.inr y) (V.bl true) (l'.map fun z => (Sum.inr z.2, V.bl true))
        have hz2 : Hz r = some (.lst [.str y]) := by
          rw [hz]
          show some (HO.lst (cutV ((mergeK [] ((Sum.inr y, V.bl true) :: (l'.map fun z => ((Sum.inr z.2 : Key), V.bl true)))).map fun kv => kV kv.1) none (some 1))) = _
          rw [em, List.map_cons, cut_first] <;> rfl
        have sE := sm.trans (s2.trans ((same_new hlk).trans sz))
        refine q r y Hz hz2 ((gt9 y ?_).up (by decide)) ((B9.same sE).mono (by omega)) (F9.trans (.of sE))
        rw [← el]
        exact List.mem_cons_self

end
end KR
namespace KR
open PySem PySem.Spec PyProof.Rows L2
section
variable {P : Program} {w : World} {K : PySem.W.Frag} {mg : Str → Option Value} {base : Heap}
/-- the twenty classes, with their names -/
def names20 : List Str := ["BadFrac", "BadKettles", "BadMoulds", "BadRow", "BadDeed", "NoKettle", "NoMould", "NoShare", "NoRoom", "NoHour", "NoTelling", "NoSteady", "Empty", "Same", "Stopped", "InWork", "NotReady", "TooStrong", "Cured", "NotCured"]
def rows20 (T : All K mg) : List (Addr × Str) := [(T.C_BadFrac, "BadFrac"), (T.C_BadKettles, "BadKettles"), (T.C_BadMoulds, "BadMoulds"), (T.C_BadRow, "BadRow"), (T.C_BadDeed, "BadDeed"), (T.C_NoKettle, "NoKettle"), (T.C_NoMould, "NoMould"), (T.C_NoShare, "NoShare"), (T.C_NoRoom, "NoRoom"), (T.C_NoHour, "NoHour"), (T.C_NoTelling, "NoTelling"), (T.C_NoSteady, "NoSteady"), (T.C_Empty, "Empty"), (T.C_Same, "Same"), (T.C_Stopped, "Stopped"), (T.C_InWork, "InWork"), (T.C_NotReady, "NotReady"), (T.C_TooStrong, "TooStrong"), (T.C_Cured, "Cured"), (T.C_NotCured, "NotCured")]
theorem rows_ok (T : All K mg) : ∀ r ∈ rows20 T, Cls K T.C_BoilError r.1 r.2 := by
  intro r hr
  unfold rows20 at hr
  repeat (rcases List.mem_cons.mp hr with rfl | hr; first | exact T.r_BadFrac | exact T.r_BadKettles | exact T.r_BadMoulds | exact T.r_BadRow | exact T.r_BadDeed | exact T.r_NoKettle | exact T.r_NoMould | exact T.r_NoShare | exact T.r_NoRoom | exact T.r_NoHour | exact T.r_NoTelling | exact T.r_NoSteady | exact T.r_Empty | exact T.r_Same | exact T.r_Stopped | exact T.r_InWork | exact T.r_NotReady | exact T.r_TooStrong | exact T.r_Cured | exact T.r_NotCured)
  cases hr
theorem rows_names (T : All K mg) : (rows20 T).map (·.2) = names20 := rfl
theorem rows_at (T : All K mg) {i : Nat} {r : Addr × Str} (h : (rows20 T)[i]? = some r) : names20[i]? = some r.2 := by
  rw [← rows_names T, List.getElem?_map, h] <;> rfl
theorem names_diff {i j : Nat} {a b : Str} (hi : names20[i]? = some a) (hj : names20[j]? = some b) (h : i ≠ j) : a ≠ b ∧ b ≠ "BoilError" := by
  have key : ∀ i < 20, ∀ j < 20, names20[i]? = names20[j]? → i = j := by decide +kernel
  have nb : ∀ x ∈ names20, x ≠ "BoilError" := by decide +kernel
  refine ⟨fun e => h ?_, nb b (List.mem_of_getElem? hj)⟩
  exact key i (List.getElem?_eq_some_iff.mp hi).1 j (List.getElem?_eq_some_iff.mp hj).1 (by rw [hi, hj, e])
theorem kit20 (T : All K mg) {i j : Nat} {r s : Addr × Str} (hi : (rows20 T)[i]? = some r) (hj : (rows20 T)[j]? = some s) : PySem.W.kitOne K (.ref r.1) (.ref s.1) = some (decide (i = j)) := by
  have ri := rows_ok T r (List.mem_of_getElem? hi)
  have rj := rows_ok T s (List.mem_of_getElem? hj)
  by_cases e : i = j
  · subst e
    rw [hi] at hj
    cases hj
    rw [decide_eq_true rfl]
    exact ri.same
  · obtain ⟨n1, n2⟩ := names_diff (rows_at T hi) (rows_at T hj) e
    rw [decide_eq_false e]
    exact ri.other rj T.R_BoilError n1 n2
def sp_l_fits (T : All K mg) : Sp := fun vs H Q _ => ∃ (a d : Addr) (i : Nat) (r : Addr × Str) (v : V), vs = [.ref a] ∧ (rows20 T)[i]? = some r ∧ Kept K H a r.1 d v ∧ ∀ l H', Same H H' → H l = none → H' l = some (.lst ((List.range 20).map fun j => .bl (decide (i = j)))) → Q (.ref l) H'
theorem ok_l_fits (T : All K mg) : FnOk P w K mg base CX0 1 T.f_l_fits T.fd_l_fits ["_law_caught"] (sp_l_fits T) := by
  refine T.d_l_fits.fn.ok sc_l_fits (fun vs H Q E h => ?_) (fun cdv A outer s H vs Q E hr h => ?_)
  · obtain ⟨a, d, i, r, v, rfl, _⟩ := h
    rfl
  · obtain ⟨a, d, i, r, v, rfl, hi, kp, q⟩ := h
    refine ⟨_, (pss_cons (ps_set (i := 1) sc_l_fits.nd rfl (by first | exact Or.inl rfl | exact Or.inr rfl) (pe_lstI (pa_cons (pe_callB (isX (K := K) rfl) (by rfl) T.b_isinstance (by decide +kernel) (pa_cons (pv 0) (pa_cons (pe_glob (v := .ref T.C_BadFrac) rfl T.g_BadFrac rfl) pa_nil))) (pa_cons (pe_callB (isX (K := K) rfl) (by rfl) T.b_isinstance (by decide +kernel) (pa_cons (pv 0) (pa_cons (pe_glob (v := .ref T.C_BadKettles) rfl T.g_BadKettles rfl) pa_nil))) (pa_cons (pe_callB (isX (K := K) rfl) (by rfl) T.b_isinstance (by decide +kernel) (pa_cons (pv 0) (pa_cons (pe_glob (v := .ref T.C_BadMoulds) rfl T.g_BadMoulds rfl) pa_nil))) pa_nil)))))
      (pss_cons (ps_set (i := 1) sc_l_fits.nd rfl (by first | exact Or.inl rfl | exact Or.inr rfl) (pe_op op_catI (pv 1) (pe_lstI (pa_cons (pe_callB (isX (K := K) rfl) (by rfl) T.b_isinstance (by decide +kernel) (pa_cons (pv 0) (pa_cons (pe_glob (v := .ref T.C_BadRow) rfl T.g_BadRow rfl) pa_nil))) (pa_cons (pe_callB (isX (K := K) rfl) (by rfl) T.b_isinstance (by decide +kernel) (pa_cons (pv 0) (pa_cons (pe_glob (v := .ref T.C_BadDeed) rfl T.g_BadDeed rfl) pa_nil))) (pa_cons (pe_callB (isX (K := K) rfl) (by rfl) T.b_isinstance (by decide +kernel) (pa_cons (pv 0) (pa_cons (pe_glob (v := .ref T.C_NoKettle) rfl T.g_NoKettle rfl) pa_nil))) pa_nil))))))
      (pss_cons (ps_set (i := 1) sc_l_fits.nd rfl (by first | exact Or.inl rfl | exact Or.inr rfl) (pe_op op_catI (pv 1) (pe_lstI (pa_cons (pe_callB (isX (K := K) rfl) (by rfl) T.b_isinstance (by decide +kernel) (pa_cons (pv 0) (pa_cons (pe_glob (v := .ref T.C_NoMould) rfl T.g_NoMould rfl) pa_nil))) (pa_cons (pe_callB (isX (K := K) rfl) (by rfl) T.b_isinstance (by decide +kernel) (pa_cons (pv 0) (pa_cons (pe_glob (v := .ref T.C_NoShare) rfl T.g_NoShare rfl) pa_nil))) (pa_cons (pe_callB (isX (K := K) rfl) (by rfl) T.b_isinstance (by decide +kernel) (pa_cons (pv 0) (pa_cons (pe_glob (v := .ref T.C_NoRoom) rfl T.g_NoRoom rfl) pa_nil))) pa_nil))))))
      (pss_cons (ps_set (i := 1) sc_l_fits.nd rfl (by first | exact Or.inl rfl | exact Or.inr rfl) (pe_op op_catI (pv 1) (pe_lstI (pa_cons (pe_callB (isX (K := K) rfl) (by rfl) T.b_isinstance (by decide +kernel) (pa_cons (pv 0) (pa_cons (pe_glob (v := .ref T.C_NoHour) rfl T.g_NoHour rfl) pa_nil))) (pa_cons (pe_callB (isX (K := K) rfl) (by rfl) T.b_isinstance (by decide +kernel) (pa_cons (pv 0) (pa_cons (pe_glob (v := .ref T.C_NoTelling) rfl T.g_NoTelling rfl) pa_nil))) (pa_cons (pe_callB (isX (K := K) rfl) (by rfl) T.b_isinstance (by decide +kernel) (pa_cons (pv 0) (pa_cons (pe_glob (v := .ref T.C_NoSteady) rfl T.g_NoSteady rfl) pa_nil))) pa_nil))))))
      (pss_cons (ps_set (i := 1) sc_l_fits.nd rfl (by first | exact Or.inl rfl | exact Or.inr rfl) (pe_op op_catI (pv 1) (pe_lstI (pa_cons (pe_callB (isX (K := K) rfl) (by rfl) T.b_isinstance (by decide +kernel) (pa_cons (pv 0) (pa_cons (pe_glob (v := .ref T.C_Empty) rfl T.g_Empty rfl) pa_nil))) (pa_cons (pe_callB (isX (K := K) rfl) (by rfl) T.b_isinstance (by decide +kernel) (pa_cons (pv 0) (pa_cons (pe_glob (v := .ref T.C_Same) rfl T.g_Same rfl) pa_nil))) (pa_cons (pe_callB (isX (K := K) rfl) (by rfl) T.b_isinstance (by decide +kernel) (pa_cons (pv 0) (pa_cons (pe_glob (v := .ref T.C_Stopped) rfl T.g_Stopped rfl) pa_nil))) pa_nil))))))
      (pss_cons (ps_set (i := 1) sc_l_fits.nd rfl (by first | exact Or.inl rfl | exact Or.inr rfl) (pe_op op_catI (pv 1) (pe_lstI (pa_cons (pe_callB (isX (K := K) rfl) (by rfl) T.b_isinstance (by decide +kernel) (pa_cons (pv 0) (pa_cons (pe_glob (v := .ref T.C_InWork) rfl T.g_InWork rfl) pa_nil))) (pa_cons (pe_callB (isX (K := K) rfl) (by rfl) T.b_isinstance (by decide +kernel) (pa_cons (pv 0) (pa_cons (pe_glob (v := .ref T.C_NotReady) rfl T.g_NotReady rfl) pa_nil))) (pa_cons (pe_callB (isX (K := K) rfl) (by rfl) T.b_isinstance (by decide +kernel) (pa_cons (pv 0) (pa_cons (pe_glob (v := .ref T.C_TooStrong) rfl T.g_TooStrong rfl) pa_nil))) pa_nil))))))
      (pss_cons (ps_set (i := 1) sc_l_fits.nd rfl (by first | exact Or.inl rfl | exact Or.inr rfl) (pe_op op_catI (pv 1) (pe_lstI (pa_cons (pe_callB (isX (K := K) rfl) (by rfl) T.b_isinstance (by decide +kernel) (pa_cons (pv 0) (pa_cons (pe_glob (v := .ref T.C_Cured) rfl T.g_Cured rfl) pa_nil))) (pa_cons (pe_callB (isX (K := K) rfl) (by rfl) T.b_isinstance (by decide +kernel) (pa_cons (pv 0) (pa_cons (pe_glob (v := .ref T.C_NotCured) rfl T.g_NotCured rfl) pa_nil))) pa_nil)))))
      (pss_one (ps_ret (pv 1)))))))))), ?_⟩
    refine ⟨_, rfl, a, r.1, d, v, .ref T.C_BadFrac, _, _, rfl, kp, .own _, kit20 T hi (s := (T.C_BadFrac, "BadFrac")) (j := 0) rfl, _, rfl, a, r.1, d, v, .ref T.C_BadKettles, _, _, rfl, kp, .own _, kit20 T hi (s := (T.C_BadKettles, "BadKettles")) (j := 1) rfl, _, rfl, a, r.1, d, v, .ref T.C_BadMoulds, _, _, rfl, kp, .own _, kit20 T hi (s := (T.C_BadMoulds, "BadMoulds")) (j := 2) rfl, rfl, fun l0 H0 s0 n0 h0 => ?_⟩
    have k0 := kp.same s0
    have z0 := s0
    refine ⟨_, rfl, _, rfl, a, r.1, d, v, .ref T.C_BadRow, _, _, rfl, k0, .own _, kit20 T hi (s := (T.C_BadRow, "BadRow")) (j := 3) rfl, _, rfl, a, r.1, d, v, .ref T.C_BadDeed, _, _, rfl, k0, .own _, kit20 T hi (s := (T.C_BadDeed, "BadDeed")) (j := 4) rfl, _, rfl, a, r.1, d, v, .ref T.C_NoKettle, _, _, rfl, k0, .own _, kit20 T hi (s := (T.C_NoKettle, "NoKettle")) (j := 5) rfl, rfl, fun m1 G1 t1 o1 i1 => ?_⟩
    refine ⟨l0, m1, _, _, rfl, rfl, t1 _ _ h0, i1, small (Nat.le_of_ble_eq_true rfl), fun l1 H1 s1 n1 h1 => ?_⟩
    have k1 := (k0.same t1).same s1
    have z1 := z0.trans (t1.trans s1)
    refine ⟨_, rfl, _, rfl, a, r.1, d, v, .ref T.C_NoMould, _, _, rfl, k1, .own _, kit20 T hi (s := (T.C_NoMould, "NoMould")) (j := 6) rfl, _, rfl, a, r.1, d, v, .ref T.C_NoShare, _, _, rfl, k1, .own _, kit20 T hi (s := (T.C_NoShare, "NoShare")) (j := 7) rfl, _, rfl, a, r.1, d, v, .ref T.C_NoRoom, _, _, rfl, k1, .own _, kit20 T hi (s := (T.C_NoRoom, "NoRoom")) (j := 8) rfl, rfl, fun m2 G2 t2 o2 i2 => ?_⟩
    refine ⟨l1, m2, _, _, rfl, rfl, t2 _ _ h1, i2, small (Nat.le_of_ble_eq_true rfl), fun l2 H2 s2 n2 h2 => ?_⟩
    have k2 := (k1.same t2).same s2
    have z2 := z1.trans (t2.trans s2)
    refine ⟨_, rfl, _, rfl, a, r.1, d, v, .ref T.C_NoHour, _, _, rfl, k2, .own _, kit20 T hi (s := (T.C_NoHour, "NoHour")) (j := 9) rfl, _, rfl, a, r.1, d, v, .ref T.C_NoTelling, _, _, rfl, k2, .own _, kit20 T hi (s := (T.C_NoTelling, "NoTelling")) (j := 10) rfl, _, rfl, a, r.1, d, v, .ref T.C_NoSteady, _, _, rfl, k2, .own _, kit20 T hi (s := (T.C_NoSteady, "NoSteady")) (j := 11) rfl, rfl, fun m3 G3 t3 o3 i3 => ?_⟩
    refine ⟨l2, m3, _, _, rfl, rfl, t3 _ _ h2, i3, small (Nat.le_of_ble_eq_true rfl), fun l3 H3 s3 n3 h3 => ?_⟩
    have k3 := (k2.same t3).same s3
    have z3 := z2.trans (t3.trans s3)
    refine ⟨_, rfl, _, rfl, a, r.1, d, v, .ref T.C_Empty, _, _, rfl, k3, .own _, kit20 T hi (s := (T.C_Empty, "Empty")) (j := 12) rfl, _, rfl, a, r.1, d, v, .ref T.C_Same, _, _, rfl, k3, .own _, kit20 T hi (s := (T.C_Same, "Same")) (j := 13) rfl, _, rfl, a, r.1, d, v, .ref T.C_Stopped, _, _, rfl, k3, .own _, kit20 T hi (s := (T.C_Stopped, "Stopped")) (j := 14) rfl, rfl, fun m4 G4 t4 o4 i4 => ?_⟩
    refine ⟨l3, m4, _, _, rfl, rfl, t4 _ _ h3, i4, small (Nat.le_of_ble_eq_true rfl), fun l4 H4 s4 n4 h4 => ?_⟩
    have k4 := (k3.same t4).same s4
    have z4 := z3.trans (t4.trans s4)
    refine ⟨_, rfl, _, rfl, a, r.1, d, v, .ref T.C_InWork, _, _, rfl, k4, .own _, kit20 T hi (s := (T.C_InWork, "InWork")) (j := 15) rfl, _, rfl, a, r.1, d, v, .ref T.C_NotReady, _, _, rfl, k4, .own _, kit20 T hi (s := (T.C_NotReady, "NotReady")) (j := 16) rfl, _, rfl, a, r.1, d, v, .ref T.C_TooStrong, _, _, rfl, k4, .own _, kit20 T hi (s := (T.C_TooStrong, "TooStrong")) (j := 17) rfl, rfl, fun m5 G5 t5 o5 i5 => ?_⟩
    refine ⟨l4, m5, _, _, rfl, rfl, t5 _ _ h4, i5, small (Nat.le_of_ble_eq_true rfl), fun l5 H5 s5 n5 h5 => ?_⟩
    have k5 := (k4.same t5).same s5
    have z5 := z4.trans (t5.trans s5)
    refine ⟨_, rfl, _, rfl, a, r.1, d, v, .ref T.C_Cured, _, _, rfl, k5, .own _, kit20 T hi (s := (T.C_Cured, "Cured")) (j := 18) rfl, _, rfl, a, r.1, d, v, .ref T.C_NotCured, _, _, rfl, k5, .own _, kit20 T hi (s := (T.C_NotCured, "NotCured")) (j := 19) rfl, rfl, fun m6 G6 t6 o6 i6 => ?_⟩
    refine ⟨l5, m6, _, _, rfl, rfl, t6 _ _ h5, i6, small (Nat.le_of_ble_eq_true rfl), fun l6 H6 s6 n6 h6 => ?_⟩
    have k6 := (k5.same t6).same s6
    have z6 := z5.trans (t6.trans s6)
    have fr : H l6 = none := z5.free (t6.free n6)
    exact ⟨_, rfl, q l6 H6 z6 fr h6⟩

end
end KR
namespace KR
open PySem PySem.Spec PyProof.Rows L2
section
variable {P : Program} {w : World} {K : PySem.W.Frag} {mg : Str → Option Value} {base : Heap}
def sorts8 : List Str := ["text", "name", "number", "share", "pots", "deed", "places", "time"]
def sp_l_thing (K : PySem.W.Frag) : Sp := fun vs H Q _ => ∃ (p : Addr) (n : Nat) (so : Str), vs = [.ref p, .str so] ∧ so ∈ sorts8 ∧ BoxAt H p n ∧ n ≤ 999980000 ∧ ∀ (v : V) (d : PyData) (H' : Hp), Dg K H' 5 v d → Fine 6 5000 d → BoxAt H' p (n + 15) → Fr p H H' → Q v H'
theorem ok_l_thing (T : All K mg) : FnOk P w K mg base CX0 3 T.f_l_thing T.fd_l_thing ["_law_box_here", "_law_sort"] (sp_l_thing K) := by
  refine T.d_l_thing.fn.ok sc_l_thing (fun vs H Q E h => ?_) (fun cdv A outer s H vs Q E hr h => ?_)
  · obtain ⟨p, n, so, rfl, _⟩ := h
    rfl
  · obtain ⟨p, n, so, rfl, hso, hB, hn, q⟩ := h
    refine ⟨_, (pss_cons (ps_par3 (i := 2) (j := 3) (l := 4) (by rfl) sc_l_thing.nd rfl rfl rfl (by decide) (by decide) (by decide) rfl rfl rfl (pa_cons (pe_ix (ixL (K := K) rfl) (pe_call (ok_l_names T) hr (by rfl) T.d_l_names.mg T.d_l_names.fn.kp T.d_l_names.b .nil pass0 (pa_cons (pv 0) (pa_cons pe_int pa_nil))) pe_int (fun _ _ => rfl)) (pa_cons (pe_call (ok_l_take T) (hr.mono (by decide)) (by rfl) T.d_l_take.mg T.d_l_take.fn.kp T.d_l_take.b .nil pass0 (pa_cons (pv 0) (pa_cons pe_int pa_nil))) (pa_cons (pe_call (ok_l_take T) (hr.mono (by decide)) (by rfl) T.d_l_take.mg T.d_l_take.fn.kp T.d_l_take.b .nil pass0 (pa_cons (pv 0) (pa_cons pe_int pa_nil))) pa_nil))) (by rfl))
      (pss_cons (ps_set (i := 5) sc_l_thing.nd rfl (by first | exact Or.inl rfl | exact Or.inr rfl) (pe_disp (pps_cons pe_str (pe_lstI (pa_cons pe_str (pa_cons (pv 2) (pa_cons pe_str pa_nil)))) (pps_cons pe_str (pe_lstI (pa_cons (pv 2) (pa_cons pe_str (pa_cons (pe_op op_add_str (pv 2) pe_str) pa_nil)))) (pps_cons pe_str (pe_lstI (pa_cons (pv 3) (pa_cons pe_int (pa_cons (pe_op op_add pe_int (pv 3)) pa_nil)))) pps_nil))) rfl rfl (by simp) (by decide)))
      (pss_cons (ps_expr (pe_bm PySem.F.plainAttrs_dict PySem.F.slot_dict_update PySem.F.type_dict_update mt_upd (pv 5) (pa_cons (pe_disp (pps_cons pe_str (pe_lstI (pa_cons (pe_tupI (pa_cons (pv 3) (pa_cons pe_int pa_nil))) (pa_cons (pe_tupI (pa_cons pe_int (pa_cons pe_int pa_nil))) (pa_cons (pe_tupI (pa_cons (pe_un un_neg pe_int) (pa_cons pe_int pa_nil))) pa_nil)))) (pps_cons pe_str (pe_lstI (pa_cons (pe_tupI pa_nil) (pa_cons (pe_tupI (pa_cons (pe_tupI (pa_cons (pv 2) (pa_cons (pv 3) pa_nil))) pa_nil)) (pa_cons (pe_op op_repT (pe_tupI (pa_cons (pe_tupI (pa_cons (pv 2) (pa_cons pe_int (pa_cons pe_int (pa_cons (pe_tupI (pa_cons pe_int (pa_cons pe_int pa_nil))) pa_nil))))) pa_nil)) pe_int) pa_nil)))) pps_nil)) rfl rfl (by simp) (by decide)) pa_nil)))
      (pss_cons (ps_expr (pe_bm PySem.F.plainAttrs_dict PySem.F.slot_dict_update PySem.F.type_dict_update mt_upd (pv 5) (pa_cons (pe_disp (pps_cons pe_str (pe_lstI (pa_cons (pe_tupI (pa_cons pe_str (pa_cons (pv 2) pa_nil))) (pa_cons (pe_tupI pa_nil) (pa_cons (pv 3) pa_nil)))) (pps_cons pe_str (pe_lstI (pa_cons (pe_tupI (pa_cons (pv 3) pa_nil)) (pa_cons (pe_tupI (pa_cons pe_int (pa_cons pe_int (pa_cons pe_int pa_nil)))) (pa_cons (pe_tupI (pa_cons pe_int (pa_cons pe_int pa_nil))) pa_nil)))) pps_nil)) rfl rfl (by simp) (by decide)) pa_nil)))
      (pss_cons (ps_asg (pe_lstI (pa_cons (pe_tupI (pa_cons (pv 3) (pa_cons pe_int pa_nil))) (pa_cons (pe_tupI (pa_cons pe_int (pa_cons pe_int pa_nil))) (pa_cons pe_non pa_nil)))) (pg_sub (pv 5) pe_str (set_dict (hu_of hr))))
      (pss_one (ps_ret (pe_ix (ixL (K := K) rfl) (pe_dget (hu_of hr) (pv 5) (pv 1) (fun _ _ => rfl)) (pv 4) (fun _ _ => rfl))))))))), ?_⟩
    refine ⟨_, rfl, p, n, rfl, hB, by omega, fun l y H1 h1 gy B1 F1 => ⟨l, _, 0, _, rfl, rfl, SqL.of h1, at0, ?_⟩⟩
    refine ⟨_, rfl, p, 300, n + 10, rfl, B1, by omega, by decide, by decide, fun m H2 m0 m1 B2 F2 => ?_⟩
    refine ⟨_, rfl, p, 3, n + 11, rfl, B2, by omega, by decide, by decide, fun way H3 w0 w1 B3 F3 => ?_⟩
    refine ⟨_, _, _, rfl, ?_⟩
    have gq : Gd 31 (y ++ ("q" : Str)) := gy.app (Gd.one (c := 113) (by decide))
    refine fun dd hdd => ?_
    have hd0 : (upd H3 dd (.dK ([] : List (Key × V)))) dd = some (.dK []) := upd_same
    have z0 : Same H3 (upd H3 dd (.dK ([] : List (Key × V)))) := same_new hdd
    refine ⟨_, rfl, rfl, fun l1 X1 s1 n1 e1 => ?_⟩
    have hd1 := s1 _ _ hd0
    have ne1 : l1 ≠ dd := (ne_of_none hd0 n1).symm
    have z1 := z0.trans s1
    refine ⟨_, rfl, _, rfl, _, _, rfl, rfl, Gd.two gy (Gd.one (c := 113) (by decide)) (by decide), rfl, fun l2 X2 s2 n2 e2 => ?_⟩
    have hd2 := s2 _ _ hd1
    have ne2 : l2 ≠ dd := (ne_of_none hd1 n2).symm
    have z2 := z1.trans s2
    refine ⟨_, rfl, _, rfl, _, _, rfl, rfl, rfl, fun l3 X3 s3 n3 e3 => ?_⟩
    have hd3 := s3 _ _ hd2
    have ne3 : l3 ≠ dd := (ne_of_none hd2 n3).symm
    have z3 := z2.trans s3
    refine ⟨hd3, [(.inr "text", .ref l1), (.inr "name", .ref l2), (.inr "number", .ref l3)], rfl, Nat.le_of_ble_eq_true rfl, ?_⟩
    rw [merge_app ([(.inr "text", .ref l1), (.inr "name", .ref l2), (.inr "number", .ref l3)]) ([]) (by show ([.inr "text", .inr "name", .inr "number"] : List Key).Nodup; decide +kernel)]
    have q4 : (([]) ++ ([(.inr "text", .ref l1), (.inr "name", .ref l2), (.inr "number", .ref l3)]) : List (Key × V)) = [(.inr "text", .ref l1), (.inr "name", .ref l2), (.inr "number", .ref l3)] := rfl
    rw [q4]
    obtain ⟨X4, eX4⟩ : ∃ G : Hp, upd X3 dd (.dK [(.inr "text", .ref l1), (.inr "name", .ref l2), (.inr "number", .ref l3)]) = G := ⟨_, rfl⟩
    have hd4 : X4 dd = some (.dK [(.inr "text", .ref l1), (.inr "name", .ref l2), (.inr "number", .ref l3)]) := by rw [← eX4, upd_same]
    have f4 : Fr dd X3 X4 := by rw [← eX4]; exact fr_upd
    have z4 : Same H3 X4 := by rw [← eX4]; exact Same.put z3 hdd
    rw [eX4]
    refine ⟨_, rfl, .inr (.inr (.inl ⟨rfl, .inl ⟨_, hd4⟩⟩)), ?_⟩
    refine fun d2 v5 => ?_
    obtain ⟨X5, eX5⟩ : ∃ G : Hp, upd X4 d2 (.dK ([] : List (Key × V))) = G := ⟨_, rfl⟩
    have s5 : Same X4 X5 := by rw [← eX5]; exact same_new v5
    have w5 : X5 d2 = some (.dK []) := by rw [← eX5, upd_same]
    rw [eX5]
    have nd_d2 : d2 ≠ dd := (ne_of_none hd4 v5).symm
    have hd5 := s5 _ _ hd4
    have z5 := z4.trans s5
    refine ⟨_, rfl, rfl, fun t1 X6 s6 n6 e6 => ?_⟩
    have hd6 := s6 _ _ hd5
    have ne6 : t1 ≠ dd := (ne_of_none hd5 n6).symm
    have z6 := z5.trans s6
    refine ⟨rfl, fun t2 X7 s7 n7 e7 => ?_⟩
    have hd7 := s7 _ _ hd6
    have ne7 : t2 ≠ dd := (ne_of_none hd6 n7).symm
    have z7 := z6.trans s7
    refine ⟨_, rfl, rfl, fun t3 X8 s8 n8 e8 => ?_⟩
    have hd8 := s8 _ _ hd7
    have ne8 : t3 ≠ dd := (ne_of_none hd7 n8).symm
    have z8 := z7.trans s8
    refine ⟨rfl, fun l4 X9 s9 n9 e9 => ?_⟩
    have hd9 := s9 _ _ hd8
    have ne9 : l4 ≠ dd := (ne_of_none hd8 n9).symm
    have z9 := z8.trans s9
    refine ⟨rfl, fun t4 X10 s10 n10 e10 => ?_⟩
    have hd10 := s10 _ _ hd9
    have ne10 : t4 ≠ dd := (ne_of_none hd9 n10).symm
    have z10 := z9.trans s10
    refine ⟨_, rfl, _, rfl, rfl, fun t5 X11 s11 n11 e11 => ?_⟩
    have hd11 := s11 _ _ hd10
    have ne11 : t5 ≠ dd := (ne_of_none hd10 n11).symm
    have z11 := z10.trans s11
    refine ⟨rfl, fun t6 X12 s12 n12 e12 => ?_⟩
    have hd12 := s12 _ _ hd11
    have ne12 : t6 ≠ dd := (ne_of_none hd11 n12).symm
    have z12 := z11.trans s12
    refine ⟨_, rfl, rfl, fun t7 X13 s13 n13 e13 => ?_⟩
    have hd13 := s13 _ _ hd12
    have ne13 : t7 ≠ dd := (ne_of_none hd12 n13).symm
    have z13 := z12.trans s13
    refine ⟨rfl, fun t8 X14 s14 n14 e14 => ?_⟩
    have hd14 := s14 _ _ hd13
    have ne14 : t8 ≠ dd := (ne_of_none hd13 n14).symm
    have z14 := z13.trans s14
    refine ⟨rfl, fun t9 X15 s15 n15 e15 => ?_⟩
    have hd15 := s15 _ _ hd14
    have ne15 : t9 ≠ dd := (ne_of_none hd14 n15).symm
    have z15 := z14.trans s15
    refine ⟨t9, 9, _, rfl, rfl, SqT.of e15, (by simp), by decide, by decide, (Nat.le_of_ble_eq_true rfl), fun t10 v99 => ?_⟩
    have r9 : (List.replicate (9 : Int).toNat [V.ref t8]).flatten = [.ref t8, .ref t8, .ref t8, .ref t8, .ref t8, .ref t8, .ref t8, .ref t8, .ref t8] := rfl
    rw [r9]
    obtain ⟨X16, eX16⟩ : ∃ G : Hp, upd X15 t10 (.tup [.ref t8, .ref t8, .ref t8, .ref t8, .ref t8, .ref t8, .ref t8, .ref t8, .ref t8]) = G := ⟨_, rfl⟩
    have s16 : Same X15 X16 := by rw [← eX16]; exact same_new v99
    have e16 : X16 t10 = some (.tup [.ref t8, .ref t8, .ref t8, .ref t8, .ref t8, .ref t8, .ref t8, .ref t8, .ref t8]) := by rw [← eX16, upd_same]
    rw [eX16]
    have ne16 : t10 ≠ dd := (ne_of_none hd15 v99).symm
    have hd16 := s16 _ _ hd15
    have z16 := z15.trans s16
    refine ⟨rfl, fun l5 X17 s17 n17 e17 => ?_⟩
    have hd17 := s17 _ _ hd16
    have ne17 : l5 ≠ dd := (ne_of_none hd16 n17).symm
    have z17 := z16.trans s17
    have wd_d2 : X17 d2 = some (.dK []) := (s6.trans (s7.trans (s8.trans (s9.trans (s10.trans (s11.trans (s12.trans (s13.trans (s14.trans (s15.trans (s16.trans (s17)))))))))))) _ _ w5
    refine ⟨wd_d2, [(.inr "share", .ref l4), (.inr "pots", .ref l5)], rfl, Nat.le_of_ble_eq_true rfl, ?_⟩
    rw [merge_app ([(.inr "share", .ref l4), (.inr "pots", .ref l5)]) [] (by show ([.inr "share", .inr "pots"] : List Key).Nodup; decide +kernel), List.nil_append]
    obtain ⟨X18, eX18⟩ : ∃ G : Hp, upd X17 d2 (.dK [(.inr "share", .ref l4), (.inr "pots", .ref l5)]) = G := ⟨_, rfl⟩
    have c18 : X18 d2 = some (.dK [(.inr "share", .ref l4), (.inr "pots", .ref l5)]) := by rw [← eX18, upd_same]
    have hd18 : X18 dd = some (.dK [(.inr "text", .ref l1), (.inr "name", .ref l2), (.inr "number", .ref l3)]) := by rw [← eX18, upd_ne nd_d2.symm]; exact hd17
    rw [eX18]
    have g18 : ∀ b o, b ≠ d2 → X17 b = some o → X18 b = some o := fun b o nb e => by rw [← eX18, upd_ne nb]; exact e
    have z18 : Same H3 X18 := fun b o e => g18 b o (ne_of_none (z4 _ _ e) v5) (z17 _ _ e)
    refine ⟨dd, d2, _, _, rfl, rfl, hd18, c18, nd_d2.symm, small (Nat.le_of_ble_eq_true rfl), ?_⟩
    rw [merge_app ([(.inr "share", .ref l4), (.inr "pots", .ref l5)]) ([(.inr "text", .ref l1), (.inr "name", .ref l2), (.inr "number", .ref l3)]) (by show ([.inr "text", .inr "name", .inr "number", .inr "share", .inr "pots"] : List Key).Nodup; decide +kernel)]
    have q19 : (([(.inr "text", .ref l1), (.inr "name", .ref l2), (.inr "number", .ref l3)]) ++ ([(.inr "share", .ref l4), (.inr "pots", .ref l5)]) : List (Key × V)) = [(.inr "text", .ref l1), (.inr "name", .ref l2), (.inr "number", .ref l3), (.inr "share", .ref l4), (.inr "pots", .ref l5)] := rfl
    rw [q19]
    obtain ⟨X19, eX19⟩ : ∃ G : Hp, upd X18 dd (.dK [(.inr "text", .ref l1), (.inr "name", .ref l2), (.inr "number", .ref l3), (.inr "share", .ref l4), (.inr "pots", .ref l5)]) = G := ⟨_, rfl⟩
    have hd19 : X19 dd = some (.dK [(.inr "text", .ref l1), (.inr "name", .ref l2), (.inr "number", .ref l3), (.inr "share", .ref l4), (.inr "pots", .ref l5)]) := by rw [← eX19, upd_same]
    have f19 : Fr dd X18 X19 := by rw [← eX19]; exact fr_upd
    have z19 : Same H3 X19 := by rw [← eX19]; exact Same.put z18 hdd
    rw [eX19]
    have a18_l1 := (s17 _ _ (s16 _ _ (s15 _ _ (s14 _ _ (s13 _ _ (s12 _ _ (s11 _ _ (s10 _ _ (s9 _ _ (s8 _ _ (s7 _ _ (s6 _ _ (s5 _ _ (f4 _ _ ne1 (s3 _ _ (s2 _ _ e1))))))))))))))))
    have k19_l1 := (f19 _ _ ne1 (g18 _ _ (ne_of a18_l1 wd_d2 (by intro z; cases z)) a18_l1))
    have a18_l2 := (s17 _ _ (s16 _ _ (s15 _ _ (s14 _ _ (s13 _ _ (s12 _ _ (s11 _ _ (s10 _ _ (s9 _ _ (s8 _ _ (s7 _ _ (s6 _ _ (s5 _ _ (f4 _ _ ne2 (s3 _ _ e2)))))))))))))))
    have k19_l2 := (f19 _ _ ne2 (g18 _ _ (ne_of a18_l2 wd_d2 (by intro z; cases z)) a18_l2))
    have a18_l3 := (s17 _ _ (s16 _ _ (s15 _ _ (s14 _ _ (s13 _ _ (s12 _ _ (s11 _ _ (s10 _ _ (s9 _ _ (s8 _ _ (s7 _ _ (s6 _ _ (s5 _ _ (f4 _ _ ne3 e3))))))))))))))
    have k19_l3 := (f19 _ _ ne3 (g18 _ _ (ne_of a18_l3 wd_d2 (by intro z; cases z)) a18_l3))
    have a18_t1 := (s17 _ _ (s16 _ _ (s15 _ _ (s14 _ _ (s13 _ _ (s12 _ _ (s11 _ _ (s10 _ _ (s9 _ _ (s8 _ _ (s7 _ _ e6)))))))))))
    have k19_t1 := (f19 _ _ ne6 (g18 _ _ (ne_of a18_t1 wd_d2 (by intro z; cases z)) a18_t1))
    have a18_t2 := (s17 _ _ (s16 _ _ (s15 _ _ (s14 _ _ (s13 _ _ (s12 _ _ (s11 _ _ (s10 _ _ (s9 _ _ (s8 _ _ e7))))))))))
    have k19_t2 := (f19 _ _ ne7 (g18 _ _ (ne_of a18_t2 wd_d2 (by intro z; cases z)) a18_t2))
    have a18_t3 := (s17 _ _ (s16 _ _ (s15 _ _ (s14 _ _ (s13 _ _ (s12 _ _ (s11 _ _ (s10 _ _ (s9 _ _ e8)))))))))
    have k19_t3 := (f19 _ _ ne8 (g18 _ _ (ne_of a18_t3 wd_d2 (by intro z; cases z)) a18_t3))
    have a18_l4 := (s17 _ _ (s16 _ _ (s15 _ _ (s14 _ _ (s13 _ _ (s12 _ _ (s11 _ _ (s10 _ _ e9))))))))
    have k19_l4 := (f19 _ _ ne9 (g18 _ _ (ne_of a18_l4 wd_d2 (by intro z; cases z)) a18_l4))
    have a18_t4 := (s17 _ _ (s16 _ _ (s15 _ _ (s14 _ _ (s13 _ _ (s12 _ _ (s11 _ _ e10)))))))
    have k19_t4 := (f19 _ _ ne10 (g18 _ _ (ne_of a18_t4 wd_d2 (by intro z; cases z)) a18_t4))
    have a18_t5 := (s17 _ _ (s16 _ _ (s15 _ _ (s14 _ _ (s13 _ _ (s12 _ _ e11))))))
    have k19_t5 := (f19 _ _ ne11 (g18 _ _ (ne_of a18_t5 wd_d2 (by intro z; cases z)) a18_t5))
    have a18_t6 := (s17 _ _ (s16 _ _ (s15 _ _ (s14 _ _ (s13 _ _ e12)))))
    have k19_t6 := (f19 _ _ ne12 (g18 _ _ (ne_of a18_t6 wd_d2 (by intro z; cases z)) a18_t6))
    have a18_t7 := (s17 _ _ (s16 _ _ (s15 _ _ (s14 _ _ e13))))
    have k19_t7 := (f19 _ _ ne13 (g18 _ _ (ne_of a18_t7 wd_d2 (by intro z; cases z)) a18_t7))
    have a18_t8 := (s17 _ _ (s16 _ _ (s15 _ _ e14)))
    have k19_t8 := (f19 _ _ ne14 (g18 _ _ (ne_of a18_t8 wd_d2 (by intro z; cases z)) a18_t8))
    have a18_t9 := (s17 _ _ (s16 _ _ e15))
    have k19_t9 := (f19 _ _ ne15 (g18 _ _ (ne_of a18_t9 wd_d2 (by intro z; cases z)) a18_t9))
    have a18_t10 := (s17 _ _ e16)
    have k19_t10 := (f19 _ _ ne16 (g18 _ _ (ne_of a18_t10 wd_d2 (by intro z; cases z)) a18_t10))
    have a18_l5 := e17
    have k19_l5 := (f19 _ _ ne17 (g18 _ _ (ne_of a18_l5 wd_d2 (by intro z; cases z)) a18_l5))
    refine ⟨_, rfl, .inr (.inr (.inl ⟨rfl, .inl ⟨_, hd19⟩⟩)), ?_⟩
    refine fun d3 v20 => ?_
    obtain ⟨X20, eX20⟩ : ∃ G : Hp, upd X19 d3 (.dK ([] : List (Key × V))) = G := ⟨_, rfl⟩
    have s20 : Same X19 X20 := by rw [← eX20]; exact same_new v20
    have w20 : X20 d3 = some (.dK []) := by rw [← eX20, upd_same]
    rw [eX20]
    have nd_d3 : d3 ≠ dd := (ne_of_none hd19 v20).symm
    have hd20 := s20 _ _ hd19
    have z20 := z19.trans s20
    refine ⟨_, rfl, rfl, fun t11 X21 s21 n21 e21 => ?_⟩
    have hd21 := s21 _ _ hd20
    have ne21 : t11 ≠ dd := (ne_of_none hd20 n21).symm
    have z21 := z20.trans s21
    refine ⟨rfl, fun t12 X22 s22 n22 e22 => ?_⟩
    have hd22 := s22 _ _ hd21
    have ne22 : t12 ≠ dd := (ne_of_none hd21 n22).symm
    have z22 := z21.trans s22
    refine ⟨_, rfl, rfl, fun l6 X23 s23 n23 e23 => ?_⟩
    have hd23 := s23 _ _ hd22
    have ne23 : l6 ≠ dd := (ne_of_none hd22 n23).symm
    have z23 := z22.trans s23
    refine ⟨_, rfl, rfl, fun t13 X24 s24 n24 e24 => ?_⟩
    have hd24 := s24 _ _ hd23
    have ne24 : t13 ≠ dd := (ne_of_none hd23 n24).symm
    have z24 := z23.trans s24
    refine ⟨rfl, fun t14 X25 s25 n25 e25 => ?_⟩
    have hd25 := s25 _ _ hd24
    have ne25 : t14 ≠ dd := (ne_of_none hd24 n25).symm
    have z25 := z24.trans s25
    refine ⟨rfl, fun t15 X26 s26 n26 e26 => ?_⟩
    have hd26 := s26 _ _ hd25
    have ne26 : t15 ≠ dd := (ne_of_none hd25 n26).symm
    have z26 := z25.trans s26
    refine ⟨rfl, fun l7 X27 s27 n27 e27 => ?_⟩
    have hd27 := s27 _ _ hd26
    have ne27 : l7 ≠ dd := (ne_of_none hd26 n27).symm
    have z27 := z26.trans s27
    have wd_d3 : X27 d3 = some (.dK []) := (s21.trans (s22.trans (s23.trans (s24.trans (s25.trans (s26.trans (s27))))))) _ _ w20
    refine ⟨wd_d3, [(.inr "deed", .ref l6), (.inr "places", .ref l7)], rfl, Nat.le_of_ble_eq_true rfl, ?_⟩
    rw [merge_app ([(.inr "deed", .ref l6), (.inr "places", .ref l7)]) [] (by show ([.inr "deed", .inr "places"] : List Key).Nodup; decide +kernel), List.nil_append]
    obtain ⟨X28, eX28⟩ : ∃ G : Hp, upd X27 d3 (.dK [(.inr "deed", .ref l6), (.inr "places", .ref l7)]) = G := ⟨_, rfl⟩
    have c28 : X28 d3 = some (.dK [(.inr "deed", .ref l6), (.inr "places", .ref l7)]) := by rw [← eX28, upd_same]
    have hd28 : X28 dd = some (.dK [(.inr "text", .ref l1), (.inr "name", .ref l2), (.inr "number", .ref l3), (.inr "share", .ref l4), (.inr "pots", .ref l5)]) := by rw [← eX28, upd_ne nd_d3.symm]; exact hd27
    rw [eX28]
    have g28 : ∀ b o, b ≠ d3 → X27 b = some o → X28 b = some o := fun b o nb e => by rw [← eX28, upd_ne nb]; exact e
    have z28 : Same H3 X28 := fun b o e => g28 b o (ne_of_none (z19 _ _ e) v20) (z27 _ _ e)
    refine ⟨dd, d3, _, _, rfl, rfl, hd28, c28, nd_d3.symm, small (Nat.le_of_ble_eq_true rfl), ?_⟩
    rw [merge_app ([(.inr "deed", .ref l6), (.inr "places", .ref l7)]) ([(.inr "text", .ref l1), (.inr "name", .ref l2), (.inr "number", .ref l3), (.inr "share", .ref l4), (.inr "pots", .ref l5)]) (by show ([.inr "text", .inr "name", .inr "number", .inr "share", .inr "pots", .inr "deed", .inr "places"] : List Key).Nodup; decide +kernel)]
    have q29 : (([(.inr "text", .ref l1), (.inr "name", .ref l2), (.inr "number", .ref l3), (.inr "share", .ref l4), (.inr "pots", .ref l5)]) ++ ([(.inr "deed", .ref l6), (.inr "places", .ref l7)]) : List (Key × V)) = [(.inr "text", .ref l1), (.inr "name", .ref l2), (.inr "number", .ref l3), (.inr "share", .ref l4), (.inr "pots", .ref l5), (.inr "deed", .ref l6), (.inr "places", .ref l7)] := rfl
    rw [q29]
    obtain ⟨X29, eX29⟩ : ∃ G : Hp, upd X28 dd (.dK [(.inr "text", .ref l1), (.inr "name", .ref l2), (.inr "number", .ref l3), (.inr "share", .ref l4), (.inr "pots", .ref l5), (.inr "deed", .ref l6), (.inr "places", .ref l7)]) = G := ⟨_, rfl⟩
    have hd29 : X29 dd = some (.dK [(.inr "text", .ref l1), (.inr "name", .ref l2), (.inr "number", .ref l3), (.inr "share", .ref l4), (.inr "pots", .ref l5), (.inr "deed", .ref l6), (.inr "places", .ref l7)]) := by rw [← eX29, upd_same]
    have f29 : Fr dd X28 X29 := by rw [← eX29]; exact fr_upd
    have z29 : Same H3 X29 := by rw [← eX29]; exact Same.put z28 hdd
    rw [eX29]
    have a28_l1 := (s27 _ _ (s26 _ _ (s25 _ _ (s24 _ _ (s23 _ _ (s22 _ _ (s21 _ _ (s20 _ _ k19_l1))))))))
    have k29_l1 := (f29 _ _ ne1 (g28 _ _ (ne_of a28_l1 wd_d3 (by intro z; cases z)) a28_l1))
    have a28_l2 := (s27 _ _ (s26 _ _ (s25 _ _ (s24 _ _ (s23 _ _ (s22 _ _ (s21 _ _ (s20 _ _ k19_l2))))))))
    have k29_l2 := (f29 _ _ ne2 (g28 _ _ (ne_of a28_l2 wd_d3 (by intro z; cases z)) a28_l2))
    have a28_l3 := (s27 _ _ (s26 _ _ (s25 _ _ (s24 _ _ (s23 _ _ (s22 _ _ (s21 _ _ (s20 _ _ k19_l3))))))))
    have k29_l3 := (f29 _ _ ne3 (g28 _ _ (ne_of a28_l3 wd_d3 (by intro z; cases z)) a28_l3))
    have a28_t1 := (s27 _ _ (s26 _ _ (s25 _ _ (s24 _ _ (s23 _ _ (s22 _ _ (s21 _ _ (s20 _ _ k19_t1))))))))
    have k29_t1 := (f29 _ _ ne6 (g28 _ _ (ne_of a28_t1 wd_d3 (by intro z; cases z)) a28_t1))
    have a28_t2 := (s27 _ _ (s26 _ _ (s25 _ _ (s24 _ _ (s23 _ _ (s22 _ _ (s21 _ _ (s20 _ _ k19_t2))))))))
    have k29_t2 := (f29 _ _ ne7 (g28 _ _ (ne_of a28_t2 wd_d3 (by intro z; cases z)) a28_t2))
    have a28_t3 := (s27 _ _ (s26 _ _ (s25 _ _ (s24 _ _ (s23 _ _ (s22 _ _ (s21 _ _ (s20 _ _ k19_t3))))))))
    have k29_t3 := (f29 _ _ ne8 (g28 _ _ (ne_of a28_t3 wd_d3 (by intro z; cases z)) a28_t3))
    have a28_l4 := (s27 _ _ (s26 _ _ (s25 _ _ (s24 _ _ (s23 _ _ (s22 _ _ (s21 _ _ (s20 _ _ k19_l4))))))))
    have k29_l4 := (f29 _ _ ne9 (g28 _ _ (ne_of a28_l4 wd_d3 (by intro z; cases z)) a28_l4))
    have a28_t4 := (s27 _ _ (s26 _ _ (s25 _ _ (s24 _ _ (s23 _ _ (s22 _ _ (s21 _ _ (s20 _ _ k19_t4))))))))
    have k29_t4 := (f29 _ _ ne10 (g28 _ _ (ne_of a28_t4 wd_d3 (by intro z; cases z)) a28_t4))
    have a28_t5 := (s27 _ _ (s26 _ _ (s25 _ _ (s24 _ _ (s23 _ _ (s22 _ _ (s21 _ _ (s20 _ _ k19_t5))))))))
    have k29_t5 := (f29 _ _ ne11 (g28 _ _ (ne_of a28_t5 wd_d3 (by intro z; cases z)) a28_t5))
    have a28_t6 := (s27 _ _ (s26 _ _ (s25 _ _ (s24 _ _ (s23 _ _ (s22 _ _ (s21 _ _ (s20 _ _ k19_t6))))))))
    have k29_t6 := (f29 _ _ ne12 (g28 _ _ (ne_of a28_t6 wd_d3 (by intro z; cases z)) a28_t6))
    have a28_t7 := (s27 _ _ (s26 _ _ (s25 _ _ (s24 _ _ (s23 _ _ (s22 _ _ (s21 _ _ (s20 _ _ k19_t7))))))))
    have k29_t7 := (f29 _ _ ne13 (g28 _ _ (ne_of a28_t7 wd_d3 (by intro z; cases z)) a28_t7))
    have a28_t8 := (s27 _ _ (s26 _ _ (s25 _ _ (s24 _ _ (s23 _ _ (s22 _ _ (s21 _ _ (s20 _ _ k19_t8))))))))
    have k29_t8 := (f29 _ _ ne14 (g28 _ _ (ne_of a28_t8 wd_d3 (by intro z; cases z)) a28_t8))
    have a28_t9 := (s27 _ _ (s26 _ _ (s25 _ _ (s24 _ _ (s23 _ _ (s22 _ _ (s21 _ _ (s20 _ _ k19_t9))))))))
    have k29_t9 := (f29 _ _ ne15 (g28 _ _ (ne_of a28_t9 wd_d3 (by intro z; cases z)) a28_t9))
    have a28_t10 := (s27 _ _ (s26 _ _ (s25 _ _ (s24 _ _ (s23 _ _ (s22 _ _ (s21 _ _ (s20 _ _ k19_t10))))))))
    have k29_t10 := (f29 _ _ ne16 (g28 _ _ (ne_of a28_t10 wd_d3 (by intro z; cases z)) a28_t10))
    have a28_l5 := (s27 _ _ (s26 _ _ (s25 _ _ (s24 _ _ (s23 _ _ (s22 _ _ (s21 _ _ (s20 _ _ k19_l5))))))))
    have k29_l5 := (f29 _ _ ne17 (g28 _ _ (ne_of a28_l5 wd_d3 (by intro z; cases z)) a28_l5))
    have a28_t11 := (s27 _ _ (s26 _ _ (s25 _ _ (s24 _ _ (s23 _ _ (s22 _ _ e21))))))
    have k29_t11 := (f29 _ _ ne21 (g28 _ _ (ne_of a28_t11 wd_d3 (by intro z; cases z)) a28_t11))
    have a28_t12 := (s27 _ _ (s26 _ _ (s25 _ _ (s24 _ _ (s23 _ _ e22)))))
    have k29_t12 := (f29 _ _ ne22 (g28 _ _ (ne_of a28_t12 wd_d3 (by intro z; cases z)) a28_t12))
    have a28_l6 := (s27 _ _ (s26 _ _ (s25 _ _ (s24 _ _ e23))))
    have k29_l6 := (f29 _ _ ne23 (g28 _ _ (ne_of a28_l6 wd_d3 (by intro z; cases z)) a28_l6))
    have a28_t13 := (s27 _ _ (s26 _ _ (s25 _ _ e24)))
    have k29_t13 := (f29 _ _ ne24 (g28 _ _ (ne_of a28_t13 wd_d3 (by intro z; cases z)) a28_t13))
    have a28_t14 := (s27 _ _ (s26 _ _ e25))
    have k29_t14 := (f29 _ _ ne25 (g28 _ _ (ne_of a28_t14 wd_d3 (by intro z; cases z)) a28_t14))
    have a28_t15 := (s27 _ _ e26)
    have k29_t15 := (f29 _ _ ne26 (g28 _ _ (ne_of a28_t15 wd_d3 (by intro z; cases z)) a28_t15))
    have a28_l7 := e27
    have k29_l7 := (f29 _ _ ne27 (g28 _ _ (ne_of a28_l7 wd_d3 (by intro z; cases z)) a28_l7))
    refine ⟨_, rfl, rfl, fun t16 X30 s30 n30 e30 => ?_⟩
    have hd30 := s30 _ _ hd29
    have ne30 : t16 ≠ dd := (ne_of_none hd29 n30).symm
    have z30 := z29.trans s30
    refine ⟨rfl, fun t17 X31 s31 n31 e31 => ?_⟩
    have hd31 := s31 _ _ hd30
    have ne31 : t17 ≠ dd := (ne_of_none hd30 n31).symm
    have z31 := z30.trans s31
    refine ⟨rfl, fun l8 X32 s32 n32 e32 => ?_⟩
    have hd32 := s32 _ _ hd31
    have ne32 : l8 ≠ dd := (ne_of_none hd31 n32).symm
    have z32 := z31.trans s32
    refine ⟨_, rfl, dd, _, rfl, DPut.k (k := .inr "time") hd32 (Nat.lt_of_le_of_lt (Nat.le_of_ble_eq_true (rfl : Nat.ble 7 100 = true)) (small1000 (by decide))), ?_⟩
    have ep : putK (([(.inr "text", .ref l1), (.inr "name", .ref l2), (.inr "number", .ref l3), (.inr "share", .ref l4), (.inr "pots", .ref l5), (.inr "deed", .ref l6), (.inr "places", .ref l7)] : List (Key × V))) (Sum.inr "time" : Key) (V.ref l8) = [(.inr "text", .ref l1), (.inr "name", .ref l2), (.inr "number", .ref l3), (.inr "share", .ref l4), (.inr "pots", .ref l5), (.inr "deed", .ref l6), (.inr "places", .ref l7), (.inr "time", .ref l8)] := merge_app [(.inr "time", .ref l8)] ([(.inr "text", .ref l1), (.inr "name", .ref l2), (.inr "number", .ref l3), (.inr "share", .ref l4), (.inr "pots", .ref l5), (.inr "deed", .ref l6), (.inr "places", .ref l7)]) (by show ([.inr "text", .inr "name", .inr "number", .inr "share", .inr "pots", .inr "deed", .inr "places", .inr "time"] : List Key).Nodup; decide +kernel)
    rw [ep]
    obtain ⟨X33, eX33⟩ : ∃ G : Hp, upd X32 dd (.dK [(.inr "text", .ref l1), (.inr "name", .ref l2), (.inr "number", .ref l3), (.inr "share", .ref l4), (.inr "pots", .ref l5), (.inr "deed", .ref l6), (.inr "places", .ref l7), (.inr "time", .ref l8)]) = G := ⟨_, rfl⟩
    have hd33 : X33 dd = some (.dK [(.inr "text", .ref l1), (.inr "name", .ref l2), (.inr "number", .ref l3), (.inr "share", .ref l4), (.inr "pots", .ref l5), (.inr "deed", .ref l6), (.inr "places", .ref l7), (.inr "time", .ref l8)]) := by rw [← eX33, upd_same]
    have f33 : Fr dd X32 X33 := by rw [← eX33]; exact fr_upd
    have z33 : Same H3 X33 := by rw [← eX33]; exact Same.put z32 hdd
    rw [eX33]
    have k33_l1 := (f33 _ _ ne1 (s32 _ _ (s31 _ _ (s30 _ _ k29_l1))))
    have k33_l2 := (f33 _ _ ne2 (s32 _ _ (s31 _ _ (s30 _ _ k29_l2))))
    have k33_l3 := (f33 _ _ ne3 (s32 _ _ (s31 _ _ (s30 _ _ k29_l3))))
    have k33_t1 := (f33 _ _ ne6 (s32 _ _ (s31 _ _ (s30 _ _ k29_t1))))
    have k33_t2 := (f33 _ _ ne7 (s32 _ _ (s31 _ _ (s30 _ _ k29_t2))))
    have k33_t3 := (f33 _ _ ne8 (s32 _ _ (s31 _ _ (s30 _ _ k29_t3))))
    have k33_l4 := (f33 _ _ ne9 (s32 _ _ (s31 _ _ (s30 _ _ k29_l4))))
    have k33_t4 := (f33 _ _ ne10 (s32 _ _ (s31 _ _ (s30 _ _ k29_t4))))
    have k33_t5 := (f33 _ _ ne11 (s32 _ _ (s31 _ _ (s30 _ _ k29_t5))))
    have k33_t6 := (f33 _ _ ne12 (s32 _ _ (s31 _ _ (s30 _ _ k29_t6))))
    have k33_t7 := (f33 _ _ ne13 (s32 _ _ (s31 _ _ (s30 _ _ k29_t7))))
    have k33_t8 := (f33 _ _ ne14 (s32 _ _ (s31 _ _ (s30 _ _ k29_t8))))
    have k33_t9 := (f33 _ _ ne15 (s32 _ _ (s31 _ _ (s30 _ _ k29_t9))))
    have k33_t10 := (f33 _ _ ne16 (s32 _ _ (s31 _ _ (s30 _ _ k29_t10))))
    have k33_l5 := (f33 _ _ ne17 (s32 _ _ (s31 _ _ (s30 _ _ k29_l5))))
    have k33_t11 := (f33 _ _ ne21 (s32 _ _ (s31 _ _ (s30 _ _ k29_t11))))
    have k33_t12 := (f33 _ _ ne22 (s32 _ _ (s31 _ _ (s30 _ _ k29_t12))))
    have k33_l6 := (f33 _ _ ne23 (s32 _ _ (s31 _ _ (s30 _ _ k29_l6))))
    have k33_t13 := (f33 _ _ ne24 (s32 _ _ (s31 _ _ (s30 _ _ k29_t13))))
    have k33_t14 := (f33 _ _ ne25 (s32 _ _ (s31 _ _ (s30 _ _ k29_t14))))
    have k33_t15 := (f33 _ _ ne26 (s32 _ _ (s31 _ _ (s30 _ _ k29_t15))))
    have k33_l7 := (f33 _ _ ne27 (s32 _ _ (s31 _ _ (s30 _ _ k29_l7))))
    have k33_t16 := (f33 _ _ ne30 (s32 _ _ (s31 _ _ e30)))
    have k33_t17 := (f33 _ _ ne31 (s32 _ _ e31))
    have k33_l8 := (f33 _ _ ne32 e32)
    have Bf := B3.same z33
    have Ff : Fr p H X33 := F1.trans (F2.trans (F3.trans (.of z33)))
    have NDK : ∀ l : List (Key × V), l = [(.inr "text", .ref l1), (.inr "name", .ref l2), (.inr "number", .ref l3), (.inr "share", .ref l4), (.inr "pots", .ref l5), (.inr "deed", .ref l6), (.inr "places", .ref l7), (.inr "time", .ref l8)] → (l.map (·.1)).Nodup := fun l e => by rw [e]; exact (by show ([.inr "text", .inr "name", .inr "number", .inr "share", .inr "pots", .inr "deed", .inr "places", .inr "time"] : List Key).Nodup; decide +kernel)
    have fin : ∀ (v : V) (d : PyData), Dg K X33 5 v d → Fine 6 5000 d → Q v X33 := fun v d h1 h2 => q v d X33 h1 h2 (Bf.mono (by omega)) Ff
    have get : ∀ (i : Nat) (x : Str) (c : Addr), ∀ l : List (Key × V), l = [(.inr "text", .ref l1), (.inr "name", .ref l2), (.inr "number", .ref l3), (.inr "share", .ref l4), (.inr "pots", .ref l5), (.inr "deed", .ref l6), (.inr "places", .ref l7), (.inr "time", .ref l8)] → l[i]? = some (.inr x, .ref c) → DGet X33 dd (.str x) (some (.ref c)) := fun i x c l el e => by
      have g := DGet.k (k := .inr x) hd33
      rw [← el, val_at e (NDK l el)] at g
      exact g
    have D5 := (DgAll.tup (K := K) (n := 3) (DgAll.cons (Dg.str 3 _) (DgAll.cons (Dg.int 3 _) DgAll.nil)) (SqT.of k33_t5))
    have G5 := (FineAll.tup (FineAll.cons (Fine.str (x := y) 0 gy.len gy.ok) (FineAll.cons (Fine.int (i := m) 0 m0 (by omega)) (FineAll.nil 0))))
    have D8 := (DgAll.tup (K := K) (n := 3) (DgAll.cons (Dg.str 3 _) (DgAll.cons (Dg.int 3 _) (DgAll.cons (Dg.int 3 _) (DgAll.cons (DgAll.tup (K := K) (n := 2) (DgAll.cons (Dg.int 2 _) (DgAll.cons (Dg.int 2 _) DgAll.nil)) (SqT.of k33_t7)) DgAll.nil)))) (SqT.of k33_t8))
    have G8 := (FineAll.tup (FineAll.cons (Fine.str 1 gy.len gy.ok) (FineAll.cons (Fine.int (i := 1) 1 (by decide) (by decide)) (FineAll.cons (Fine.int (i := 0) 1 (by decide) (by decide)) (FineAll.cons (FineAll.tup (FineAll.cons (Fine.int (i := 1) 0 (by decide) (by decide)) (FineAll.cons (Fine.int (i := 2) 0 (by decide) (by decide)) (FineAll.nil 0)))) (FineAll.nil 1))))))
    have ws : way = 0 ∨ way = 1 ∨ way = 2 := by omega
    unfold sorts8 at hso
    rcases List.mem_cons.mp hso with rfl | hso
    · refine ⟨_, rfl, _, rfl, dd, .ref l1, rfl, get 0 "text" l1 _ rfl rfl, ?_⟩
      rcases ws with e | e | e <;> subst e
      · exact ⟨_, rfl, l1, _, 0, _, rfl, rfl, SqL.of k33_l1, at0, fin _ _ (.str _ _) ((Fine.str (x := "1/0") (n := 5) 0 (by decide +kernel) (by decide +kernel)).up (by decide) (by decide))⟩
      · exact ⟨_, rfl, l1, _, 1, _, rfl, rfl, SqL.of k33_l1, at1, fin _ _ (.str _ _) ((Fine.str 0 gy.len gy.ok).up (by decide) (by decide))⟩
      · exact ⟨_, rfl, l1, _, 2, _, rfl, rfl, SqL.of k33_l1, at2, fin _ _ (.str _ _) ((Fine.str (x := "") (n := 5) 0 (by decide +kernel) (by decide +kernel)).up (by decide) (by decide))⟩
    rcases List.mem_cons.mp hso with rfl | hso
    · refine ⟨_, rfl, _, rfl, dd, .ref l2, rfl, get 1 "name" l2 _ rfl rfl, ?_⟩
      rcases ws with e | e | e <;> subst e
      · exact ⟨_, rfl, l2, _, 0, _, rfl, rfl, SqL.of k33_l2, at0, fin _ _ (.str _ _) ((Fine.str 0 gy.len gy.ok).up (by decide) (by decide))⟩
      · exact ⟨_, rfl, l2, _, 1, _, rfl, rfl, SqL.of k33_l2, at1, fin _ _ (.str _ _) ((Fine.str (x := "vat") (n := 5) 0 (by decide +kernel) (by decide +kernel)).up (by decide) (by decide))⟩
      · exact ⟨_, rfl, l2, _, 2, _, rfl, rfl, SqL.of k33_l2, at2, fin _ _ (.str _ _) ((Fine.str 0 gq.len gq.ok).up (by decide) (by decide))⟩
    rcases List.mem_cons.mp hso with rfl | hso
    · refine ⟨_, rfl, _, rfl, dd, .ref l3, rfl, get 2 "number" l3 _ rfl rfl, ?_⟩
      rcases ws with e | e | e <;> subst e
      · exact ⟨_, rfl, l3, _, 0, _, rfl, rfl, SqL.of k33_l3, at0, fin _ _ (.int _ _) ((Fine.int 0 m0 (by omega)).up (by decide) (by decide))⟩
      · exact ⟨_, rfl, l3, _, 1, _, rfl, rfl, SqL.of k33_l3, at1, fin _ _ (.int _ _) ((Fine.int 0 (by decide) (by decide)).up (by decide) (by decide))⟩
      · exact ⟨_, rfl, l3, _, 2, _, rfl, rfl, SqL.of k33_l3, at2, fin _ _ (.int _ _) ((Fine.int 0 (by omega) (by omega)).up (by decide) (by decide))⟩
    rcases List.mem_cons.mp hso with rfl | hso
    · refine ⟨_, rfl, _, rfl, dd, .ref l4, rfl, get 3 "share" l4 _ rfl rfl, ?_⟩
      rcases ws with e | e | e <;> subst e
      · exact ⟨_, rfl, l4, _, 0, _, rfl, rfl, SqL.of k33_l4, at0, fin _ _ ((DgAll.tup (DgAll.cons (Dg.int 4 _) (DgAll.cons (Dg.int 4 _) DgAll.nil)) (SqT.of k33_t1))) (Fine.up (FineAll.tup (FineAll.cons (Fine.int 0 m0 (by omega)) (FineAll.cons (Fine.int 0 (by decide) (by decide)) (FineAll.nil 0)))) (by decide) (by decide))⟩
      · exact ⟨_, rfl, l4, _, 1, _, rfl, rfl, SqL.of k33_l4, at1, fin _ _ ((DgAll.tup (DgAll.cons (Dg.int 4 _) (DgAll.cons (Dg.int 4 _) DgAll.nil)) (SqT.of k33_t2))) (Fine.up (FineAll.tup (FineAll.cons (Fine.int 0 (by decide) (by decide)) (FineAll.cons (Fine.int 0 (by decide) (by decide)) (FineAll.nil 0)))) (by decide) (by decide))⟩
      · exact ⟨_, rfl, l4, _, 2, _, rfl, rfl, SqL.of k33_l4, at2, fin _ _ ((DgAll.tup (DgAll.cons (Dg.int 4 (-1)) (DgAll.cons (Dg.int 4 _) DgAll.nil)) (SqT.of k33_t3))) (Fine.up (FineAll.tup (FineAll.cons (Fine.minus 0) (FineAll.cons (Fine.int 0 (by decide) (by decide)) (FineAll.nil 0)))) (by decide) (by decide))⟩
    rcases List.mem_cons.mp hso with rfl | hso
    · refine ⟨_, rfl, _, rfl, dd, .ref l5, rfl, get 4 "pots" l5 _ rfl rfl, ?_⟩
      rcases ws with e | e | e <;> subst e
      · exact ⟨_, rfl, l5, _, 0, _, rfl, rfl, SqL.of k33_l5, at0, fin _ _ ((DgAll.tup (n := 4) DgAll.nil (SqT.of k33_t4))) (Fine.up (FineAll.tup (FineAll.nil 0)) (by decide) (by decide))⟩
      · exact ⟨_, rfl, l5, _, 1, _, rfl, rfl, SqL.of k33_l5, at1, fin _ _ ((DgAll.tup (n := 4) (DgAll.cons D5 DgAll.nil) (SqT.of k33_t6))) (Fine.up (FineAll.tup (FineAll.cons G5 (FineAll.nil 1))) (by decide) (by decide))⟩
      · exact ⟨_, rfl, l5, _, 2, _, rfl, rfl, SqL.of k33_l5, at2, fin _ _ ((DgAll.tup (n := 4) (DgAll.cons (D8) (DgAll.cons (D8) (DgAll.cons (D8) (DgAll.cons (D8) (DgAll.cons (D8) (DgAll.cons (D8) (DgAll.cons (D8) (DgAll.cons (D8) (DgAll.cons (D8) DgAll.nil))))))))) (SqT.of k33_t10))) (Fine.up (FineAll.tup (FineAll.cons (G8) (FineAll.cons (G8) (FineAll.cons (G8) (FineAll.cons (G8) (FineAll.cons (G8) (FineAll.cons (G8) (FineAll.cons (G8) (FineAll.cons (G8) (FineAll.cons (G8) (FineAll.nil 2))))))))))) (by decide) (by decide))⟩
    rcases List.mem_cons.mp hso with rfl | hso
    · refine ⟨_, rfl, _, rfl, dd, .ref l6, rfl, get 5 "deed" l6 _ rfl rfl, ?_⟩
      rcases ws with e | e | e <;> subst e
      · exact ⟨_, rfl, l6, _, 0, _, rfl, rfl, SqL.of k33_l6, at0, fin _ _ ((DgAll.tup (DgAll.cons (Dg.str 4 _) (DgAll.cons (Dg.str 4 _) DgAll.nil)) (SqT.of k33_t11))) (Fine.up (FineAll.tup (FineAll.cons (Fine.str (x := "juice") (n := 5) 0 (by decide +kernel) (by decide +kernel)) (FineAll.cons (Fine.str 0 gy.len gy.ok) (FineAll.nil 0)))) (by decide) (by decide))⟩
      · exact ⟨_, rfl, l6, _, 1, _, rfl, rfl, SqL.of k33_l6, at1, fin _ _ ((DgAll.tup (n := 4) DgAll.nil (SqT.of k33_t12))) (Fine.up (FineAll.tup (FineAll.nil 0)) (by decide) (by decide))⟩
      · exact ⟨_, rfl, l6, _, 2, _, rfl, rfl, SqL.of k33_l6, at2, fin _ _ (.int _ _) ((Fine.int 0 m0 (by omega)).up (by decide) (by decide))⟩
    rcases List.mem_cons.mp hso with rfl | hso
    · refine ⟨_, rfl, _, rfl, dd, .ref l7, rfl, get 6 "places" l7 _ rfl rfl, ?_⟩
      rcases ws with e | e | e <;> subst e
      · exact ⟨_, rfl, l7, _, 0, _, rfl, rfl, SqL.of k33_l7, at0, fin _ _ ((DgAll.tup (DgAll.cons (Dg.int 4 _) DgAll.nil) (SqT.of k33_t13))) (Fine.up (FineAll.tup (FineAll.cons (Fine.int 0 m0 (by omega)) (FineAll.nil 0))) (by decide) (by decide))⟩
      · exact ⟨_, rfl, l7, _, 1, _, rfl, rfl, SqL.of k33_l7, at1, fin _ _ ((DgAll.tup (DgAll.cons (Dg.int 4 _) (DgAll.cons (Dg.int 4 _) (DgAll.cons (Dg.int 4 _) DgAll.nil))) (SqT.of k33_t14))) (Fine.up (FineAll.tup (FineAll.cons (Fine.int 0 (by decide) (by decide)) (FineAll.cons (Fine.int 0 (by decide) (by decide)) (FineAll.cons (Fine.int 0 (by decide) (by decide)) (FineAll.nil 0))))) (by decide) (by decide))⟩
      · exact ⟨_, rfl, l7, _, 2, _, rfl, rfl, SqL.of k33_l7, at2, fin _ _ ((DgAll.tup (DgAll.cons (Dg.int 4 _) (DgAll.cons (Dg.int 4 _) DgAll.nil)) (SqT.of k33_t15))) (Fine.up (FineAll.tup (FineAll.cons (Fine.int 0 (by decide) (by decide)) (FineAll.cons (Fine.int 0 (by decide) (by decide)) (FineAll.nil 0)))) (by decide) (by decide))⟩
    rcases List.mem_cons.mp hso with rfl | hso
    · refine ⟨_, rfl, _, rfl, dd, .ref l8, rfl, get 7 "time" l8 _ rfl rfl, ?_⟩
      rcases ws with e | e | e <;> subst e
      · exact ⟨_, rfl, l8, _, 0, _, rfl, rfl, SqL.of k33_l8, at0, fin _ _ ((DgAll.tup (DgAll.cons (Dg.int 4 _) (DgAll.cons (Dg.int 4 _) DgAll.nil)) (SqT.of k33_t16))) (Fine.up (FineAll.tup (FineAll.cons (Fine.int 0 m0 (by omega)) (FineAll.cons (Fine.int 0 (by decide) (by decide)) (FineAll.nil 0)))) (by decide) (by decide))⟩
      · exact ⟨_, rfl, l8, _, 1, _, rfl, rfl, SqL.of k33_l8, at1, fin _ _ ((DgAll.tup (DgAll.cons (Dg.int 4 _) (DgAll.cons (Dg.int 4 _) DgAll.nil)) (SqT.of k33_t17))) (Fine.up (FineAll.tup (FineAll.cons (Fine.int 0 (by decide) (by decide)) (FineAll.cons (Fine.int 0 (by decide) (by decide)) (FineAll.nil 0)))) (by decide) (by decide))⟩
      · exact ⟨_, rfl, l8, _, 2, _, rfl, rfl, SqL.of k33_l8, at2, fin _ _ (.non _) ((Fine.non 0).up (by decide) (by decide))⟩
    cases hso

end
end KR
namespace KR
open PySem PySem.Spec PyProof.Rows L2
section
variable {P : Program} {w : World} {K : PySem.W.Frag} {mg : Str → Option Value} {base : Heap}
/-- what was made of each class with each thing -/
def MadeAll (T : All K mg) (H : Hp) (vs : List V) (xs : List (Addr × Addr)) : Prop := xs.length = 20 ∧ ∀ (i : Nat) (x : Addr × Addr) (r : Addr × Str) (v : V), xs[i]? = some x → (rows20 T)[i]? = some r → vs[i]? = some v → Kept K H x.1 r.1 x.2 v
theorem MadeAll.same {T : All K mg} {H H' : Hp} {vs : List V} {xs : List (Addr × Addr)} (h : MadeAll T H vs xs) (s : Same H H') : MadeAll T H' vs xs := ⟨h.1, fun i x r v h1 h2 h3 => (h.2 i x r v h1 h2 h3).same s⟩
def sp_l_all_made (T : All K mg) : Sp := fun vs H Q _ => ∃ (tl : Addr) (ws : List V), vs = [.ref tl] ∧ H tl = some (.lst ws) ∧ ws.length = 20 ∧ ∀ l H' xs, Same H H' → H' l = some (.lst (xs.map fun x => V.ref x.1)) → MadeAll T H' ws xs → Q (.ref l) H'
theorem ok_l_all_made (T : All K mg) : FnOk P w K mg base CX0 4 T.f_l_all_made T.fd_l_all_made ["_law_things"] (sp_l_all_made T) := by
  refine T.d_l_all_made.fn.ok sc_l_all_made (fun vs H Q E h => ?_) (fun cdv A outer s H vs Q E hr h => ?_)
  · obtain ⟨tl, ws, rfl, _⟩ := h
    rfl
  · obtain ⟨tl, ws, rfl, ht, h20, q⟩ := h
    refine ⟨_, (pss_cons (ps_set (i := 1) sc_l_all_made.nd rfl (by first | exact Or.inl rfl | exact Or.inr rfl) (pe_lstI (pa_cons (pe_made (k := 0) T.r_BadFrac (hr.mono (by decide)) (by rfl) T.g_BadFrac (pa_cons (pe_ix (ixL (K := K) rfl) (pv 0) pe_int (fun _ _ => rfl)) pa_nil)) (pa_cons (pe_made (k := 0) T.r_BadKettles (hr.mono (by decide)) (by rfl) T.g_BadKettles (pa_cons (pe_ix (ixL (K := K) rfl) (pv 0) pe_int (fun _ _ => rfl)) pa_nil)) (pa_cons (pe_made (k := 0) T.r_BadMoulds (hr.mono (by decide)) (by rfl) T.g_BadMoulds (pa_cons (pe_ix (ixL (K := K) rfl) (pv 0) pe_int (fun _ _ => rfl)) pa_nil)) (pa_cons (pe_made (k := 0) T.r_BadRow (hr.mono (by decide)) (by rfl) T.g_BadRow (pa_cons (pe_ix (ixL (K := K) rfl) (pv 0) pe_int (fun _ _ => rfl)) pa_nil)) pa_nil))))))
      (pss_cons (ps_set (i := 1) sc_l_all_made.nd rfl (by first | exact Or.inl rfl | exact Or.inr rfl) (pe_op op_catI (pv 1) (pe_lstI (pa_cons (pe_made (k := 0) T.r_BadDeed (hr.mono (by decide)) (by rfl) T.g_BadDeed (pa_cons (pe_ix (ixL (K := K) rfl) (pv 0) pe_int (fun _ _ => rfl)) pa_nil)) (pa_cons (pe_made (k := 0) T.r_NoKettle (hr.mono (by decide)) (by rfl) T.g_NoKettle (pa_cons (pe_ix (ixL (K := K) rfl) (pv 0) pe_int (fun _ _ => rfl)) pa_nil)) (pa_cons (pe_made (k := 0) T.r_NoMould (hr.mono (by decide)) (by rfl) T.g_NoMould (pa_cons (pe_ix (ixL (K := K) rfl) (pv 0) pe_int (fun _ _ => rfl)) pa_nil)) (pa_cons (pe_made (k := 0) T.r_NoShare (hr.mono (by decide)) (by rfl) T.g_NoShare (pa_cons (pe_ix (ixL (K := K) rfl) (pv 0) pe_int (fun _ _ => rfl)) pa_nil)) pa_nil)))))))
      (pss_cons (ps_set (i := 1) sc_l_all_made.nd rfl (by first | exact Or.inl rfl | exact Or.inr rfl) (pe_op op_catI (pv 1) (pe_lstI (pa_cons (pe_made (k := 0) T.r_NoRoom (hr.mono (by decide)) (by rfl) T.g_NoRoom (pa_cons (pe_ix (ixL (K := K) rfl) (pv 0) pe_int (fun _ _ => rfl)) pa_nil)) (pa_cons (pe_made (k := 0) T.r_NoHour (hr.mono (by decide)) (by rfl) T.g_NoHour (pa_cons (pe_ix (ixL (K := K) rfl) (pv 0) pe_int (fun _ _ => rfl)) pa_nil)) (pa_cons (pe_made (k := 0) T.r_NoTelling (hr.mono (by decide)) (by rfl) T.g_NoTelling (pa_cons (pe_ix (ixL (K := K) rfl) (pv 0) pe_int (fun _ _ => rfl)) pa_nil)) (pa_cons (pe_made (k := 0) T.r_NoSteady (hr.mono (by decide)) (by rfl) T.g_NoSteady (pa_cons (pe_ix (ixL (K := K) rfl) (pv 0) pe_int (fun _ _ => rfl)) pa_nil)) pa_nil)))))))
      (pss_cons (ps_set (i := 1) sc_l_all_made.nd rfl (by first | exact Or.inl rfl | exact Or.inr rfl) (pe_op op_catI (pv 1) (pe_lstI (pa_cons (pe_made (k := 0) T.r_Empty (hr.mono (by decide)) (by rfl) T.g_Empty (pa_cons (pe_ix (ixL (K := K) rfl) (pv 0) pe_int (fun _ _ => rfl)) pa_nil)) (pa_cons (pe_made (k := 0) T.r_Same (hr.mono (by decide)) (by rfl) T.g_Same (pa_cons (pe_ix (ixL (K := K) rfl) (pv 0) pe_int (fun _ _ => rfl)) pa_nil)) (pa_cons (pe_made (k := 0) T.r_Stopped (hr.mono (by decide)) (by rfl) T.g_Stopped (pa_cons (pe_ix (ixL (K := K) rfl) (pv 0) pe_int (fun _ _ => rfl)) pa_nil)) (pa_cons (pe_made (k := 0) T.r_InWork (hr.mono (by decide)) (by rfl) T.g_InWork (pa_cons (pe_ix (ixL (K := K) rfl) (pv 0) pe_int (fun _ _ => rfl)) pa_nil)) pa_nil)))))))
      (pss_cons (ps_set (i := 1) sc_l_all_made.nd rfl (by first | exact Or.inl rfl | exact Or.inr rfl) (pe_op op_catI (pv 1) (pe_lstI (pa_cons (pe_made (k := 0) T.r_NotReady (hr.mono (by decide)) (by rfl) T.g_NotReady (pa_cons (pe_ix (ixL (K := K) rfl) (pv 0) pe_int (fun _ _ => rfl)) pa_nil)) (pa_cons (pe_made (k := 0) T.r_TooStrong (hr.mono (by decide)) (by rfl) T.g_TooStrong (pa_cons (pe_ix (ixL (K := K) rfl) (pv 0) pe_int (fun _ _ => rfl)) pa_nil)) (pa_cons (pe_made (k := 0) T.r_Cured (hr.mono (by decide)) (by rfl) T.g_Cured (pa_cons (pe_ix (ixL (K := K) rfl) (pv 0) pe_int (fun _ _ => rfl)) pa_nil)) (pa_cons (pe_made (k := 0) T.r_NotCured (hr.mono (by decide)) (by rfl) T.g_NotCured (pa_cons (pe_ix (ixL (K := K) rfl) (pv 0) pe_int (fun _ _ => rfl)) pa_nil)) pa_nil)))))))
      (pss_one (ps_ret (pv 1)))))))), ?_⟩
    match ws, h20, ht, q with
    | [v0, v1, v2, v3, v4, v5, v6, v7, v8, v9, v10, v11, v12, v13, v14, v15, v16, v17, v18, v19], _, ht, q =>
      have u0 := Same.refl H
      refine ⟨_, rfl, tl, _, 0, _, rfl, rfl, SqL.of ht, (at_of (j := 0) rfl rfl), v0, rfl, fun a0 d0 A0 sa0 ea0 fa0 => ?_⟩
      have b0 := sa0 _ _ ht
      refine ⟨_, rfl, tl, _, 1, _, rfl, rfl, SqL.of b0, (at_of (j := 1) rfl rfl), v1, rfl, fun a1 d1 A1 sa1 ea1 fa1 => ?_⟩
      have b1 := sa1 _ _ b0
      refine ⟨_, rfl, tl, _, 2, _, rfl, rfl, SqL.of b1, (at_of (j := 2) rfl rfl), v2, rfl, fun a2 d2 A2 sa2 ea2 fa2 => ?_⟩
      have b2 := sa2 _ _ b1
      refine ⟨_, rfl, tl, _, 3, _, rfl, rfl, SqL.of b2, (at_of (j := 3) rfl rfl), v3, rfl, fun a3 d3 A3 sa3 ea3 fa3 => ?_⟩
      have b3 := sa3 _ _ b2
      refine ⟨rfl, fun m0 M0 sm0 nm0 hm0 => ?_⟩
      have bm0 := sm0 _ _ b3
      refine ⟨_, rfl, _, rfl, tl, _, 4, _, rfl, rfl, SqL.of bm0, (at_of (j := 4) rfl rfl), v4, rfl, fun a4 d4 A4 sa4 ea4 fa4 => ?_⟩
      have b4 := sa4 _ _ bm0
      refine ⟨_, rfl, tl, _, 5, _, rfl, rfl, SqL.of b4, (at_of (j := 5) rfl rfl), v5, rfl, fun a5 d5 A5 sa5 ea5 fa5 => ?_⟩
      have b5 := sa5 _ _ b4
      refine ⟨_, rfl, tl, _, 6, _, rfl, rfl, SqL.of b5, (at_of (j := 6) rfl rfl), v6, rfl, fun a6 d6 A6 sa6 ea6 fa6 => ?_⟩
      have b6 := sa6 _ _ b5
      refine ⟨_, rfl, tl, _, 7, _, rfl, rfl, SqL.of b6, (at_of (j := 7) rfl rfl), v7, rfl, fun a7 d7 A7 sa7 ea7 fa7 => ?_⟩
      have b7 := sa7 _ _ b6
      refine ⟨rfl, fun m1 M1 sm1 nm1 hm1 => ?_⟩
      have bm1 := sm1 _ _ b7
      have st1 := sa4.trans (sa5.trans (sa6.trans (sa7.trans (sm1))))
      refine ⟨m0, m1, _, _, rfl, rfl, st1 _ _ hm0, hm1, small (Nat.le_of_ble_eq_true rfl), fun l1 L1 ss1 ns1 hl1 => ?_⟩
      have bs1 := ss1 _ _ bm1
      refine ⟨_, rfl, _, rfl, tl, _, 8, _, rfl, rfl, SqL.of bs1, (at_of (j := 8) rfl rfl), v8, rfl, fun a8 d8 A8 sa8 ea8 fa8 => ?_⟩
      have b8 := sa8 _ _ bs1
      refine ⟨_, rfl, tl, _, 9, _, rfl, rfl, SqL.of b8, (at_of (j := 9) rfl rfl), v9, rfl, fun a9 d9 A9 sa9 ea9 fa9 => ?_⟩
      have b9 := sa9 _ _ b8
      refine ⟨_, rfl, tl, _, 10, _, rfl, rfl, SqL.of b9, (at_of (j := 10) rfl rfl), v10, rfl, fun a10 d10 A10 sa10 ea10 fa10 => ?_⟩
      have b10 := sa10 _ _ b9
      refine ⟨_, rfl, tl, _, 11, _, rfl, rfl, SqL.of b10, (at_of (j := 11) rfl rfl), v11, rfl, fun a11 d11 A11 sa11 ea11 fa11 => ?_⟩
      have b11 := sa11 _ _ b10
      refine ⟨rfl, fun m2 M2 sm2 nm2 hm2 => ?_⟩
      have bm2 := sm2 _ _ b11
      have st2 := sa8.trans (sa9.trans (sa10.trans (sa11.trans (sm2))))
      refine ⟨l1, m2, _, _, rfl, rfl, st2 _ _ hl1, hm2, small (Nat.le_of_ble_eq_true rfl), fun l2 L2 ss2 ns2 hl2 => ?_⟩
      have bs2 := ss2 _ _ bm2
      refine ⟨_, rfl, _, rfl, tl, _, 12, _, rfl, rfl, SqL.of bs2, (at_of (j := 12) rfl rfl), v12, rfl, fun a12 d12 A12 sa12 ea12 fa12 => ?_⟩
      have b12 := sa12 _ _ bs2
      refine ⟨_, rfl, tl, _, 13, _, rfl, rfl, SqL.of b12, (at_of (j := 13) rfl rfl), v13, rfl, fun a13 d13 A13 sa13 ea13 fa13 => ?_⟩
      have b13 := sa13 _ _ b12
      refine ⟨_, rfl, tl, _, 14, _, rfl, rfl, SqL.of b13, (at_of (j := 14) rfl rfl), v14, rfl, fun a14 d14 A14 sa14 ea14 fa14 => ?_⟩
      have b14 := sa14 _ _ b13
      refine ⟨_, rfl, tl, _, 15, _, rfl, rfl, SqL.of b14, (at_of (j := 15) rfl rfl), v15, rfl, fun a15 d15 A15 sa15 ea15 fa15 => ?_⟩
      have b15 := sa15 _ _ b14
      refine ⟨rfl, fun m3 M3 sm3 nm3 hm3 => ?_⟩
      have bm3 := sm3 _ _ b15
      have st3 := sa12.trans (sa13.trans (sa14.trans (sa15.trans (sm3))))
      refine ⟨l2, m3, _, _, rfl, rfl, st3 _ _ hl2, hm3, small (Nat.le_of_ble_eq_true rfl), fun l3 L3 ss3 ns3 hl3 => ?_⟩
      have bs3 := ss3 _ _ bm3
      refine ⟨_, rfl, _, rfl, tl, _, 16, _, rfl, rfl, SqL.of bs3, (at_of (j := 16) rfl rfl), v16, rfl, fun a16 d16 A16 sa16 ea16 fa16 => ?_⟩
      have b16 := sa16 _ _ bs3
      refine ⟨_, rfl, tl, _, 17, _, rfl, rfl, SqL.of b16, (at_of (j := 17) rfl rfl), v17, rfl, fun a17 d17 A17 sa17 ea17 fa17 => ?_⟩
      have b17 := sa17 _ _ b16
      refine ⟨_, rfl, tl, _, 18, _, rfl, rfl, SqL.of b17, (at_of (j := 18) rfl rfl), v18, rfl, fun a18 d18 A18 sa18 ea18 fa18 => ?_⟩
      have b18 := sa18 _ _ b17
      refine ⟨_, rfl, tl, _, 19, _, rfl, rfl, SqL.of b18, (at_of (j := 19) rfl rfl), v19, rfl, fun a19 d19 A19 sa19 ea19 fa19 => ?_⟩
      have b19 := sa19 _ _ b18
      refine ⟨rfl, fun m4 M4 sm4 nm4 hm4 => ?_⟩
      have bm4 := sm4 _ _ b19
      have st4 := sa16.trans (sa17.trans (sa18.trans (sa19.trans (sm4))))
      refine ⟨l3, m4, _, _, rfl, rfl, st4 _ _ hl3, hm4, small (Nat.le_of_ble_eq_true rfl), fun l4 L4 ss4 ns4 hl4 => ?_⟩
      have bs4 := ss4 _ _ bm4
      have all := sa0.trans (sa1.trans (sa2.trans (sa3.trans (sm0.trans (sa4.trans (sa5.trans (sa6.trans (sa7.trans (sm1.trans (ss1.trans (sa8.trans (sa9.trans (sa10.trans (sa11.trans (sm2.trans (ss2.trans (sa12.trans (sa13.trans (sa14.trans (sa15.trans (sm3.trans (ss3.trans (sa16.trans (sa17.trans (sa18.trans (sa19.trans (sm4.trans (ss4))))))))))))))))))))))))))))
      have K0 : Kept K L4 a0 T.C_BadFrac d0 v0 := Kept.same ⟨T.r_BadFrac.exf, ea0, ⟨_, fa0⟩⟩ (sa1.trans (sa2.trans (sa3.trans (sm0.trans (sa4.trans (sa5.trans (sa6.trans (sa7.trans (sm1.trans (ss1.trans (sa8.trans (sa9.trans (sa10.trans (sa11.trans (sm2.trans (ss2.trans (sa12.trans (sa13.trans (sa14.trans (sa15.trans (sm3.trans (ss3.trans (sa16.trans (sa17.trans (sa18.trans (sa19.trans (sm4.trans (ss4))))))))))))))))))))))))))))
      have K1 : Kept K L4 a1 T.C_BadKettles d1 v1 := Kept.same ⟨T.r_BadKettles.exf, ea1, ⟨_, fa1⟩⟩ (sa2.trans (sa3.trans (sm0.trans (sa4.trans (sa5.trans (sa6.trans (sa7.trans (sm1.trans (ss1.trans (sa8.trans (sa9.trans (sa10.trans (sa11.trans (sm2.trans (ss2.trans (sa12.trans (sa13.trans (sa14.trans (sa15.trans (sm3.trans (ss3.trans (sa16.trans (sa17.trans (sa18.trans (sa19.trans (sm4.trans (ss4)))))))))))))))))))))))))))
      have K2 : Kept K L4 a2 T.C_BadMoulds d2 v2 := Kept.same ⟨T.r_BadMoulds.exf, ea2, ⟨_, fa2⟩⟩ (sa3.trans (sm0.trans (sa4.trans (sa5.trans (sa6.trans (sa7.trans (sm1.trans (ss1.trans (sa8.trans (sa9.trans (sa10.trans (sa11.trans (sm2.trans (ss2.trans (sa12.trans (sa13.trans (sa14.trans (sa15.trans (sm3.trans (ss3.trans (sa16.trans (sa17.trans (sa18.trans (sa19.trans (sm4.trans (ss4))))))))))))))))))))))))))
      have K3 : Kept K L4 a3 T.C_BadRow d3 v3 := Kept.same ⟨T.r_BadRow.exf, ea3, ⟨_, fa3⟩⟩ (sm0.trans (sa4.trans (sa5.trans (sa6.trans (sa7.trans (sm1.trans (ss1.trans (sa8.trans (sa9.trans (sa10.trans (sa11.trans (sm2.trans (ss2.trans (sa12.trans (sa13.trans (sa14.trans (sa15.trans (sm3.trans (ss3.trans (sa16.trans (sa17.trans (sa18.trans (sa19.trans (sm4.trans (ss4)))))))))))))))))))))))))
      have K4 : Kept K L4 a4 T.C_BadDeed d4 v4 := Kept.same ⟨T.r_BadDeed.exf, ea4, ⟨_, fa4⟩⟩ (sa5.trans (sa6.trans (sa7.trans (sm1.trans (ss1.trans (sa8.trans (sa9.trans (sa10.trans (sa11.trans (sm2.trans (ss2.trans (sa12.trans (sa13.trans (sa14.trans (sa15.trans (sm3.trans (ss3.trans (sa16.trans (sa17.trans (sa18.trans (sa19.trans (sm4.trans (ss4)))))))))))))))))))))))
      have K5 : Kept K L4 a5 T.C_NoKettle d5 v5 := Kept.same ⟨T.r_NoKettle.exf, ea5, ⟨_, fa5⟩⟩ (sa6.trans (sa7.trans (sm1.trans (ss1.trans (sa8.trans (sa9.trans (sa10.trans (sa11.trans (sm2.trans (ss2.trans (sa12.trans (sa13.trans (sa14.trans (sa15.trans (sm3.trans (ss3.trans (sa16.trans (sa17.trans (sa18.trans (sa19.trans (sm4.trans (ss4))))))))))))))))))))))
      have K6 : Kept K L4 a6 T.C_NoMould d6 v6 := Kept.same ⟨T.r_NoMould.exf, ea6, ⟨_, fa6⟩⟩ (sa7.trans (sm1.trans (ss1.trans (sa8.trans (sa9.trans (sa10.trans (sa11.trans (sm2.trans (ss2.trans (sa12.trans (sa13.trans (sa14.trans (sa15.trans (sm3.trans (ss3.trans (sa16.trans (sa17.trans (sa18.trans (sa19.trans (sm4.trans (ss4)))))))))))))))))))))
      have K7 : Kept K L4 a7 T.C_NoShare d7 v7 := Kept.same ⟨T.r_NoShare.exf, ea7, ⟨_, fa7⟩⟩ (sm1.trans (ss1.trans (sa8.trans (sa9.trans (sa10.trans (sa11.trans (sm2.trans (ss2.trans (sa12.trans (sa13.trans (sa14.trans (sa15.trans (sm3.trans (ss3.trans (sa16.trans (sa17.trans (sa18.trans (sa19.trans (sm4.trans (ss4))))))))))))))))))))
      have K8 : Kept K L4 a8 T.C_NoRoom d8 v8 := Kept.same ⟨T.r_NoRoom.exf, ea8, ⟨_, fa8⟩⟩ (sa9.trans (sa10.trans (sa11.trans (sm2.trans (ss2.trans (sa12.trans (sa13.trans (sa14.trans (sa15.trans (sm3.trans (ss3.trans (sa16.trans (sa17.trans (sa18.trans (sa19.trans (sm4.trans (ss4)))))))))))))))))
      have K9 : Kept K L4 a9 T.C_NoHour d9 v9 := Kept.same ⟨T.r_NoHour.exf, ea9, ⟨_, fa9⟩⟩ (sa10.trans (sa11.trans (sm2.trans (ss2.trans (sa12.trans (sa13.trans (sa14.trans (sa15.trans (sm3.trans (ss3.trans (sa16.trans (sa17.trans (sa18.trans (sa19.trans (sm4.trans (ss4))))))))))))))))
      have K10 : Kept K L4 a10 T.C_NoTelling d10 v10 := Kept.same ⟨T.r_NoTelling.exf, ea10, ⟨_, fa10⟩⟩ (sa11.trans (sm2.trans (ss2.trans (sa12.trans (sa13.trans (sa14.trans (sa15.trans (sm3.trans (ss3.trans (sa16.trans (sa17.trans (sa18.trans (sa19.trans (sm4.trans (ss4)))))))))))))))
      have K11 : Kept K L4 a11 T.C_NoSteady d11 v11 := Kept.same ⟨T.r_NoSteady.exf, ea11, ⟨_, fa11⟩⟩ (sm2.trans (ss2.trans (sa12.trans (sa13.trans (sa14.trans (sa15.trans (sm3.trans (ss3.trans (sa16.trans (sa17.trans (sa18.trans (sa19.trans (sm4.trans (ss4))))))))))))))
      have K12 : Kept K L4 a12 T.C_Empty d12 v12 := Kept.same ⟨T.r_Empty.exf, ea12, ⟨_, fa12⟩⟩ (sa13.trans (sa14.trans (sa15.trans (sm3.trans (ss3.trans (sa16.trans (sa17.trans (sa18.trans (sa19.trans (sm4.trans (ss4)))))))))))
      have K13 : Kept K L4 a13 T.C_Same d13 v13 := Kept.same ⟨T.r_Same.exf, ea13, ⟨_, fa13⟩⟩ (sa14.trans (sa15.trans (sm3.trans (ss3.trans (sa16.trans (sa17.trans (sa18.trans (sa19.trans (sm4.trans (ss4))))))))))
      have K14 : Kept K L4 a14 T.C_Stopped d14 v14 := Kept.same ⟨T.r_Stopped.exf, ea14, ⟨_, fa14⟩⟩ (sa15.trans (sm3.trans (ss3.trans (sa16.trans (sa17.trans (sa18.trans (sa19.trans (sm4.trans (ss4)))))))))
      have K15 : Kept K L4 a15 T.C_InWork d15 v15 := Kept.same ⟨T.r_InWork.exf, ea15, ⟨_, fa15⟩⟩ (sm3.trans (ss3.trans (sa16.trans (sa17.trans (sa18.trans (sa19.trans (sm4.trans (ss4))))))))
      have K16 : Kept K L4 a16 T.C_NotReady d16 v16 := Kept.same ⟨T.r_NotReady.exf, ea16, ⟨_, fa16⟩⟩ (sa17.trans (sa18.trans (sa19.trans (sm4.trans (ss4)))))
      have K17 : Kept K L4 a17 T.C_TooStrong d17 v17 := Kept.same ⟨T.r_TooStrong.exf, ea17, ⟨_, fa17⟩⟩ (sa18.trans (sa19.trans (sm4.trans (ss4))))
      have K18 : Kept K L4 a18 T.C_Cured d18 v18 := Kept.same ⟨T.r_Cured.exf, ea18, ⟨_, fa18⟩⟩ (sa19.trans (sm4.trans (ss4)))
      have K19 : Kept K L4 a19 T.C_NotCured d19 v19 := Kept.same ⟨T.r_NotCured.exf, ea19, ⟨_, fa19⟩⟩ (sm4.trans (ss4))
      refine ⟨_, rfl, q l4 L4 [(a0, d0), (a1, d1), (a2, d2), (a3, d3), (a4, d4), (a5, d5), (a6, d6), (a7, d7), (a8, d8), (a9, d9), (a10, d10), (a11, d11), (a12, d12), (a13, d13), (a14, d14), (a15, d15), (a16, d16), (a17, d17), (a18, d18), (a19, d19)] all hl4 ⟨rfl, fun i x r v hx hr2 hv => ?_⟩⟩
      match i, hx, hr2, hv with
      | 0, hx, hr2, hv => cases hx; cases hr2; cases hv; exact K0
      | 1, hx, hr2, hv => cases hx; cases hr2; cases hv; exact K1
      | 2, hx, hr2, hv => cases hx; cases hr2; cases hv; exact K2
      | 3, hx, hr2, hv => cases hx; cases hr2; cases hv; exact K3
      | 4, hx, hr2, hv => cases hx; cases hr2; cases hv; exact K4
      | 5, hx, hr2, hv => cases hx; cases hr2; cases hv; exact K5
      | 6, hx, hr2, hv => cases hx; cases hr2; cases hv; exact K6
      | 7, hx, hr2, hv => cases hx; cases hr2; cases hv; exact K7
      | 8, hx, hr2, hv => cases hx; cases hr2; cases hv; exact K8
      | 9, hx, hr2, hv => cases hx; cases hr2; cases hv; exact K9
      | 10, hx, hr2, hv => cases hx; cases hr2; cases hv; exact K10
      | 11, hx, hr2, hv => cases hx; cases hr2; cases hv; exact K11
      | 12, hx, hr2, hv => cases hx; cases hr2; cases hv; exact K12
      | 13, hx, hr2, hv => cases hx; cases hr2; cases hv; exact K13
      | 14, hx, hr2, hv => cases hx; cases hr2; cases hv; exact K14
      | 15, hx, hr2, hv => cases hx; cases hr2; cases hv; exact K15
      | 16, hx, hr2, hv => cases hx; cases hr2; cases hv; exact K16
      | 17, hx, hr2, hv => cases hx; cases hr2; cases hv; exact K17
      | 18, hx, hr2, hv => cases hx; cases hr2; cases hv; exact K18
      | 19, hx, hr2, hv => cases hx; cases hr2; cases hv; exact K19
      | i + 20, hx, _, _ => simp at hx

end
end KR
namespace KR
open PySem PySem.Spec PyProof.Rows L2
section
variable {P : Program} {w : World} {K : PySem.W.Frag} {mg : Str → Option Value} {base : Heap}
def sp_l_right : Sp := fun vs H Q _ => ∃ (p : Addr), vs = [.ref p] ∧ BoxAt H p 0 ∧ ∀ H', Fr p H H' → Q (.bl true) H'
/-- each can be shown -/
def ShownAll (K : PySem.W.Frag) (H : Hp) (vs : List V) : Prop := ∀ v ∈ vs, ∃ d, Dg K H 5 v d ∧ Fine 6 5000 d
theorem ShownAll.same {K : PySem.W.Frag} {H H' : Hp} {vs : List V} (h : ShownAll K H vs) (s : Same H H') : ShownAll K H' vs := fun v hv => by
  obtain ⟨d, h1, h2⟩ := h v hv
  exact ⟨d, h1.same s, h2⟩
theorem ShownAll.fr {K : PySem.W.Frag} {H H' : Hp} {p : Addr} {m : Nat} {vs : List V} (h : ShownAll K H vs) (B : BoxAt H p m) (f : Fr p H H') : ShownAll K H' vs := fun v hv => by
  obtain ⟨d, h1, h2⟩ := h v hv
  exact ⟨d, h1.fr B f, h2⟩
theorem dp_bools {K : PySem.W.Frag} {H : Hp} : ∀ bs : List Bool, DpAll K H (bs.map V.bl) (bs.map PyData.bool) ∧ PyData.canLayAll0 (bs.map PyData.bool) = true ∧ PyData.depthAll (bs.map PyData.bool) = 0
  | [] => ⟨.nil, rfl, rfl⟩
  | b :: r => by
    obtain ⟨h1, h2, h3⟩ := dp_bools (K := K) (H := H) r
    refine ⟨.cons (.bl b) h1, ?_, ?_⟩
    · show (PyData.canLay0 (.bool b) && PyData.canLayAll0 (r.map PyData.bool)) = true
      rw [h2] <;> rfl
    · show max (PyData.depth (.bool b)) (PyData.depthAll (r.map PyData.bool)) = 0
      rw [h3] <;> rfl
/-- two lists of the same bools -/
theorem bools_alike {K : PySem.W.Frag} {H : Hp} {a b : Addr} {bs : List Bool} (h1 : H a = some (.lst (bs.map V.bl))) (h2 : H b = some (.lst (bs.map V.bl))) : ∃ d, Dp K H (.ref a) d ∧ Dp K H (.ref b) d ∧ SeqAt.shaped d = true ∧ PyData.eqv d d = true := by
  obtain ⟨k1, k2, k3⟩ := dp_bools (K := K) (H := H) bs
  have sh : SeqAt.shaped (.list (bs.map PyData.bool)) = true := by
    show (PyData.canLayAll0 (bs.map PyData.bool) && decide (PyData.depthAll (bs.map PyData.bool) + 1 ≤ 64)) = true
    rw [k2, k3] <;> rfl
  exact ⟨_, .lst (SqL.of h1) k1, .lst (SqL.of h2) k1, sh, SeqAt.eqv_refl _ (SeqAt.canLay_of_shaped sh)⟩
def own20 (i : Nat) : List Bool := (List.range 20).map fun j => decide (i = j)
theorem own_map (i : Nat) : ((List.range 20).map fun j => V.bl (decide (i = j))) = (own20 i).map V.bl := by
  unfold own20
  rw [List.map_map] <;> rfl
/-- over what enumerate gives of a list that the body leaves as it is -/
theorem for_enum {K : PySem.W.Frag} {a : Addr} {xs : List V} {g : TG} {tb : TS} {D : Ends} {σ : L2.St} {H : Hp} (Pv : Nat → L2.St → Hp → Prop) (h0 : Pv 0 σ H) (hl : ∀ i σ H, i ≤ xs.length → Pv i σ H → SqL K H a xs)
    (hs : ∀ i x T σ H, xs[i]? = some x → H T = none → Pv i σ H → g (.ref T) σ (upd H T (.tup [.int (i : Nat), x])) fun σ2 H2 => tb { D with nx := Pv (i + 1), ct := Pv (i + 1), bk := D.nx } σ2 H2) (hd : ∀ σ H, Pv xs.length σ H → D.nx σ H) :
    ∃ W : Nat → Nat → L2.St → Hp → Prop, (∃ m, W 0 m σ H) ∧ ∀ i m σ H, W i m σ H →
      ((Ite K a).stop i H ∧ D.nx σ H) ∨ ((Ite K a).go i H ∧ ∃ N : L2.St → Hp → Prop, (∀ σ' H', N σ' H' → ∃ m', m' < m ∧ W (i + 1) m' σ' H') ∧ ∀ x H', (Ite K a).yld i H x H' → g x σ H' fun σ2 H2 => tb { D with nx := N, ct := N, bk := D.nx } σ2 H2) := by
  refine ⟨fun i m σ H => m = xs.length - i ∧ i ≤ xs.length ∧ Pv i σ H, ⟨xs.length, by simp, Nat.zero_le _, h0⟩, ?_⟩
  rintro i m σ H ⟨rfl, hi, p⟩
  have q := hl i σ H hi p
  by_cases hlt : i < xs.length
  · refine .inr ⟨⟨xs, xs[i], q, by simp [hlt]⟩, Pv (i + 1), fun σ' H' p' => ⟨xs.length - (i + 1), by omega, rfl, hlt, p'⟩, fun x H' y => ?_⟩
    obtain ⟨T, z, rfl, nT, rfl, e⟩ := y
    exact hs i z T σ H (e xs q) nT p
  · have e : i = xs.length := by omega
    subst e
    exact .inl ⟨⟨xs, q, Nat.le_refl _⟩, hd σ H p⟩
theorem ok_l_right (T : All K mg) : FnG P w K mg base 5 T.f_l_right T.fd_l_right ["_law_box_here"] (sp_l_right) := by
  refine okG T.d_l_right.fn sc_l_right (fun vs H Q E h => ?_) (fun cdv A outer s H vs Q E hr hg h => ?_)
  · obtain ⟨p, rfl, _⟩ := h
    rfl
  · obtain ⟨p, rfl, hB, q⟩ := h
    refine ⟨_, (pss_cons (ps_set (i := 1) sc_l_right.nd rfl (by first | exact Or.inl rfl | exact Or.inr rfl) pe_str)
      (pss_cons (ps_set (i := 1) sc_l_right.nd rfl (by first | exact Or.inl rfl | exact Or.inr rfl) (pe_op op_catI (pe_split (pv 1) pe_str) (pe_lstI (pa_cons pe_str (pa_cons pe_str pa_nil)))))
      (pss_cons (ps_par (i := 2) (j := 3) (by rfl) sc_l_right.nd rfl rfl (by decide) rfl rfl (pa_cons (pe_lc (own := [("_law_sort", 4)]) (g := gName 4) (tt := tYes) (by rfl) sc_l_right.nd (pi_listK (K := K) rfl (pv 1)) (blkOk_by (own := [("_law_sort", 4)]) (N := ["_law_box_here", "_law_sorts", "_law_things", "_law_more", "_law_sort", "_law_made", "_law_others", "_law_at", "_law_one", "_law_k"]) (sc := defScope s_l_right) (by decide +kernel)) (fun _ _ _ _ _ => (pg_name (i := 4) sc_l_right.nd rfl (by first | exact Or.inl rfl | exact Or.inr rfl))) (fun _ _ _ _ _ => pts_nil) (fun _ _ _ _ _ => (pe_call (ok_l_thing T) (hr.mono (by decide)) (by rfl) T.d_l_thing.mg T.d_l_thing.fn.kp T.d_l_thing.b .nil pass0 (pa_cons (pv 0) (pa_cons (pv 4) pa_nil))))) (pa_cons (pe_lc (own := [("_law_sort", 4)]) (g := gName 4) (tt := tYes) (by rfl) sc_l_right.nd (pi_listK (K := K) rfl (pv 1)) (blkOk_by (own := [("_law_sort", 4)]) (N := ["_law_box_here", "_law_sorts", "_law_things", "_law_more", "_law_sort", "_law_made", "_law_others", "_law_at", "_law_one", "_law_k"]) (sc := defScope s_l_right) (by decide +kernel)) (fun _ _ _ _ _ => (pg_name (i := 4) sc_l_right.nd rfl (by first | exact Or.inl rfl | exact Or.inr rfl))) (fun _ _ _ _ _ => pts_nil) (fun _ _ _ _ _ => (pe_call (ok_l_thing T) (hr.mono (by decide)) (by rfl) T.d_l_thing.mg T.d_l_thing.fn.kp T.d_l_thing.b .nil pass0 (pa_cons (pv 0) (pa_cons (pv 4) pa_nil))))) pa_nil)) (by rfl))
      (pss_cons (ps_set (i := 5) sc_l_right.nd rfl (by first | exact Or.inl rfl | exact Or.inr rfl) (pe_call (ok_l_all_made T) hr (by rfl) T.d_l_all_made.mg T.d_l_all_made.fn.kp T.d_l_all_made.b .nil pass0 (pa_cons (pv 2) pa_nil)))
      (pss_cons (ps_set (i := 6) sc_l_right.nd rfl (by first | exact Or.inl rfl | exact Or.inr rfl) (pe_call (ok_l_all_made T) hr (by rfl) T.d_l_all_made.mg T.d_l_all_made.fn.kp T.d_l_all_made.b .nil pass0 (pa_cons (pv 3) pa_nil)))
      (pss_cons (ps_for PassesOwn.never rfl (pi_enumK (K := K) rfl (by rfl) T.b_enumerate (pa_cons (pv 5) pa_nil)) (pg_tupK (K := K) rfl rfl (pgs_cons (pg_name (i := 7) sc_l_right.nd rfl (by first | exact Or.inl rfl | exact Or.inr rfl)) (pgs_cons (pg_name (i := 8) sc_l_right.nd rfl (by first | exact Or.inl rfl | exact Or.inr rfl)) pgs_nil))) (pss_cons (ps_if (PW.pt (pw_or (pt_not (pt_val (pe_callB (isX (K := K) rfl) (by rfl) T.b_isinstance (by decide +kernel) (pa_cons (pv 8) (pa_cons (pe_glob (v := .ref T.C_BoilError) rfl T.g_BoilError rfl) pa_nil))))) (pw_or1 (pt_not (pt_val (pe_callB (isX (K := K) rfl) (by rfl) T.b_isinstance (by decide +kernel) (pa_cons (pv 8) (pa_cons (pe_bltn (v := .ty "ValueError") (by rfl) T.b_ValueError (by decide +kernel) rfl) pa_nil)))))))) (pss_one (ps_ret pe_bl)) pss_nil)
      (pss_cons (ps_if (PW.pt (pw_or (pt_cmpR (neDK (K := K) rfl hr.units) (pe_call (ok_l_fits T) (hr.mono (by decide)) (by rfl) T.d_l_fits.mg T.d_l_fits.fn.kp T.d_l_fits.b .nil pass0 (pa_cons (pv 8) pa_nil)) (pe_lc (own := [("_law_k", 9)]) (g := gName 9) (tt := tYes) (by rfl) sc_l_right.nd (pi_range1 (by rfl) T.b_range (pa_cons pe_int pa_nil)) (blkOk_by (own := [("_law_k", 9)]) (N := ["_law_box_here", "_law_sorts", "_law_things", "_law_more", "_law_sort", "_law_made", "_law_others", "_law_at", "_law_one", "_law_k"]) (sc := defScope s_l_right) (by decide +kernel)) (fun _ _ _ _ _ => (pg_name (i := 9) sc_l_right.nd rfl (by first | exact Or.inl rfl | exact Or.inr rfl))) (fun _ _ _ _ _ => pts_nil) (fun _ _ _ _ _ => (pe_cmpR op_eq (pv 9) (pv 7) (nomark _)))) (nomark _)) (pw_or1 (pt_cmpR op_ne (pe_callB (cr_reprV (K := K) rfl hg hr.units) (by rfl) T.b_repr (by decide +kernel) (pa_cons (pe_what rfl (pv 8)) pa_nil)) (pe_callB (cr_reprV (K := K) rfl hg hr.units) (by rfl) T.b_repr (by decide +kernel) (pa_cons (pe_ix (ixL (K := K) rfl) (pv 2) (pv 7) (fun _ _ => rfl)) pa_nil)) (nomark _))))) (pss_one (ps_ret pe_bl)) pss_nil)
      (pss_one (ps_if (PW.pt (pw_or (pt_cmpR (neDK (K := K) rfl hr.units) (pe_call (ok_l_fits T) (hr.mono (by decide)) (by rfl) T.d_l_fits.mg T.d_l_fits.fn.kp T.d_l_fits.b .nil pass0 (pa_cons (pe_ix (ixL (K := K) rfl) (pv 6) (pv 7) (fun _ _ => rfl)) pa_nil)) (pe_call (ok_l_fits T) (hr.mono (by decide)) (by rfl) T.d_l_fits.mg T.d_l_fits.fn.kp T.d_l_fits.b .nil pass0 (pa_cons (pv 8) pa_nil)) (nomark _)) (pw_or1 (pt_cmpR op_ne (pe_callB (cr_reprV (K := K) rfl hg hr.units) (by rfl) T.b_repr (by decide +kernel) (pa_cons (pe_what rfl (pe_ix (ixL (K := K) rfl) (pv 6) (pv 7) (fun _ _ => rfl))) pa_nil)) (pe_callB (cr_reprV (K := K) rfl hg hr.units) (by rfl) T.b_repr (by decide +kernel) (pa_cons (pe_ix (ixL (K := K) rfl) (pv 3) (pv 7) (fun _ _ => rfl)) pa_nil)) (nomark _))))) (pss_one (ps_ret pe_bl)) pss_nil)))))
      (pss_one (ps_ret pe_bl)))))))), ?_⟩
    refine ⟨_, rfl, ⟨_, rfl⟩, _, _, rfl, rfl, by decide +kernel, small (by decide +kernel), fun sl0 f0 => ?_⟩
    refine ⟨rfl, fun l2 H2 s2 n2 h2 => ?_⟩
    refine ⟨sl0, l2, _, _, rfl, rfl, s2 _ _ upd_same, h2, small (by decide +kernel), fun sl H3 s3 n3 h3 => ?_⟩
    have s03 : Same H H3 := (same_new f0).trans (s2.trans s3)
    obtain ⟨ws, ews, h20, hin⟩ : ∃ ws : List Str, H3 sl = some (.lst (ws.map V.str)) ∧ ws.length = 20 ∧ ∀ y ∈ ws, y ∈ sorts8 :=
      ⟨Txt.split "text pots pots number deed name name share name number number places name name name name time share" " " ++ (["name", "name"] : List Str), by rw [List.map_append]; exact h3, by decide +kernel, by decide +kernel⟩
    clear h3
    have B3 := hB.same s03
    -- one turn of a list of things
    have turn : ∀ (Hb : Hp) (D : Addr) (n : Nat), BoxAt Hb p n → n ≤ 1000 → Hb D = none → ∀ (j : Nat) (z : V) (H' : Hp), (ws.map V.str)[j]? = some z → (∃ vs : List V, vs.length = j ∧ BoxAt H' p (n + 15 * j) ∧ Fr p Hb H' ∧ H' D = some (.lst vs) ∧ ShownAll K H' vs) →
        sp_l_thing K [.ref p, z] H' (fun y H4 => ∃ acc, H4 D = some (.lst acc) ∧ acc.length < sizeLine ∧ ∃ vs : List V, vs.length = j + 1 ∧ BoxAt (upd H4 D (.lst (acc ++ [y]))) p (n + 15 * (j + 1)) ∧ Fr p Hb (upd H4 D (.lst (acc ++ [y]))) ∧ (upd H4 D (.lst (acc ++ [y]))) D = some (.lst vs) ∧ ShownAll K (upd H4 D (.lst (acc ++ [y]))) vs) E0 := by
      intro Hb D n Bb hn nD j z H' hz ⟨vs, el, B, F, hD, sa⟩
      have nDp : D ≠ p := Bb.new nD
      rw [List.getElem?_map] at hz
      cases e : ws[j]? with
      | none =>
        rw [e] at hz
        cases hz
      | some y =>
        rw [e] at hz
        obtain rfl : V.str y = z := Option.some.inj hz
        have hj : j < 20 := by
          obtain ⟨k, _⟩ := List.getElem?_eq_some_iff.mp e
          omega
        refine ⟨p, _, y, rfl, hin y (List.mem_of_getElem? e), B, by omega, fun v d H4 hd fd B4 F4 => ?_⟩
        have hD4 := F4 D _ nDp hD
        refine ⟨vs, hD4, small' (by omega), vs ++ [v], by rw [List.length_append, el] <;> rfl, (B4.mono (by omega)).upd nDp, Fr.put' (F.trans F4) nD, upd_same, fun u hu => ?_⟩
        have on : ∀ {u : V} {d : PyData}, Dg K H4 5 u d → Dg K (upd H4 D (.lst (vs ++ [v]))) 5 u d := fun h => h.on fun a xs q => sqT_frL q hD4 fr_upd
        rcases List.mem_append.mp hu with h | h
        · obtain ⟨du, k1, k2⟩ := (sa.fr B F4) u h
          exact ⟨du, on k1, k2⟩
        · obtain rfl := List.mem_singleton.mp h
          exact ⟨d, on hd, fd⟩
    refine ⟨_, rfl, sl, rfl, ⟨_, SqL.of ews⟩, fun D1 hD1 => ?_⟩
    have D1p : D1 ≠ p := B3.new hD1
    have slp : sl ≠ p := by
      intro e
      obtain ⟨a, b, c, k, _⟩ := B3
      rw [← e, ews] at k
      have k2 := congrArg (fun o : Option HO => match o with | some (.lst xs) => xs.length | _ => 0) k
      have k3 : (ws.map V.str).length = 3 := k2
      rw [List.length_map] at k3
      omega
    refine lc_list (K := K) (a := sl) (xs := ws.map V.str) (fun j H' => ∃ vs : List V, vs.length = j ∧ BoxAt H' p (0 + 15 * j) ∧ Fr p H3 H' ∧ H' D1 = some (.lst vs) ∧ ShownAll K H' vs) ⟨[], rfl, B3.upd D1p, .of (same_new hD1), upd_same, fun v hv => by cases hv⟩ (fun j H' _ ⟨_, _, _, F, _⟩ => SqL.of (F _ _ slp ews)) (fun j z H' hz w => ?_) ?_
    · exact ⟨rfl, yesT ⟨_, rfl, _, rfl, turn H3 D1 0 B3 (by omega) hD1 j z H' hz w⟩⟩
    rintro H4 ⟨v1, len1, B4, F4, hv1, sh1⟩
    rw [List.length_map] at len1 B4
    refine ⟨_, rfl, sl, rfl, ⟨_, SqL.of (F4 _ _ slp ews)⟩, fun D2 hD2 => ?_⟩
    have D2p : D2 ≠ p := B4.new hD2
    refine lc_list (K := K) (a := sl) (xs := ws.map V.str) (fun j H' => ∃ vs : List V, vs.length = j ∧ BoxAt H' p (300 + 15 * j) ∧ Fr p H4 H' ∧ H' D2 = some (.lst vs) ∧ ShownAll K H' vs) ⟨[], rfl, (B4.mono (by omega)).upd D2p, .of (same_new hD2), upd_same, fun v hv => by cases hv⟩ (fun j H' _ ⟨_, _, _, F, _⟩ => SqL.of (F _ _ slp (F4 _ _ slp ews))) (fun j z H' hz w => ?_) ?_
    · exact ⟨rfl, yesT ⟨_, rfl, _, rfl, turn H4 D2 300 (B4.mono (by omega)) (by omega) hD2 j z H' hz w⟩⟩
    rintro H5 ⟨v2, len2, B5, F5, hv2, sh2⟩
    rw [List.length_map] at len2 B5
    have hv15 := F5 _ _ D1p hv1
    have sh15 := sh1.fr B4 F5
    refine ⟨_, _, rfl, ?_⟩
    refine ⟨_, rfl, D1, v1, rfl, hv15, by omega, fun lm H6 xs1 s6 hm1 ma1 => ?_⟩
    refine ⟨_, rfl, D2, v2, rfl, s6 _ _ hv2, by omega, fun lo H7 xs2 s7 hm2 ma2 => ?_⟩
    have s67 := s6.trans s7
    have gm1 := s7 _ _ hm1
    have ga1 := ma1.same s7
    have gv1 := s67 _ _ hv15
    have gv2 := s67 _ _ hv2
    have gs1 := sh15.same s67
    have gs2 := sh2.same s67
    have F7 : Fr p H H7 := (Fr.of s03).trans (F4.trans (F5.trans (.of s67)))
    refine ⟨_, rfl, lm, _, rfl, SqL.of gm1, ?_⟩
    refine for_enum (K := K) (a := lm) (xs := xs1.map fun x => V.ref x.1) (fun _ σ H' => ∃ w4 w7 w8 w9 : Option V, σ = [some (.ref p), some (.ref sl), some (.ref D1), some (.ref D2), w4, some (.ref lm), some (.ref lo), w7, w8, w9] ∧ Same H7 H') ⟨none, none, none, none, rfl, .refl _⟩ ?_ ?_ ?_
    · rintro i σ H' _ ⟨w4, w7, w8, w9, _, sm⟩
      exact SqL.of (sm _ _ gm1)
    · rintro i y0 tp σ H0 ey0 ntp ⟨w4, w7, w8, w9, rfl, sm⟩
      have hi : i < xs1.length := by
        obtain ⟨k, _⟩ := List.getElem?_eq_some_iff.mp ey0
        rw [List.length_map] at k
        exact k
      rw [List.getElem?_map] at ey0
      obtain ⟨x1, ex1⟩ : ∃ x1, xs1[i]? = some x1 := ⟨_, List.getElem?_eq_getElem hi⟩
      rw [ex1] at ey0
      obtain rfl : V.ref x1.1 = y0 := Option.some.inj ey0
      have i20 : i < 20 := by rw [← ga1.1]; exact hi
      obtain ⟨r, er⟩ : ∃ r, (rows20 T)[i]? = some r := ⟨_, List.getElem?_eq_getElem (show i < 20 from i20)⟩
      obtain ⟨x2, ex2⟩ : ∃ x2, xs2[i]? = some x2 := ⟨_, List.getElem?_eq_getElem (by rw [ma2.1]; exact i20)⟩
      obtain ⟨u1, eu1⟩ : ∃ u1, v1[i]? = some u1 := ⟨_, List.getElem?_eq_getElem (by omega)⟩
      obtain ⟨u2, eu2⟩ : ∃ u2, v2[i]? = some u2 := ⟨_, List.getElem?_eq_getElem (by omega)⟩
      have s8 : Same H7 (upd H0 tp (.tup [.int ((i : Nat) : Int), .ref x1.1])) := sm.trans (same_new ntp)
      obtain ⟨H8, eH8⟩ : ∃ G : Hp, upd H0 tp (.tup [.int ((i : Nat) : Int), .ref x1.1]) = G := ⟨_, rfl⟩
      have htp : H8 tp = some (.tup [.int ((i : Nat) : Int), .ref x1.1]) := by rw [← eH8, upd_same]
      rw [eH8] at s8
      rw [eH8]
      have kp1 := (ga1.2 i x1 r u1 ex1 er eu1).same s8
      have kp2 := (ma2.2 i x2 r u2 ex2 er eu2).same s8
      have row := rows_ok T r (List.mem_of_getElem? er)
      obtain ⟨d1, dg1, fn1⟩ := gs1.same s8 u1 (List.mem_of_getElem? eu1)
      obtain ⟨d2, dg2, fn2⟩ := gs2.same s8 u2 (List.mem_of_getElem? eu2)
      refine ⟨tp, _, rfl, SqT.of htp, rfl, ?_⟩
      refine ⟨_, _, rfl, _, _, rfl, rfl, ?_⟩
      -- an own class: a BoilError, a ValueError
      refine ⟨_, rfl, x1.1, r.1, x1.2, u1, .ref T.C_BoilError, _, _, rfl, kp1, .own _, row.under T.R_BoilError, true, rfl, iteF ?_⟩
      refine ⟨_, rfl, x1.1, r.1, x1.2, u1, .ty "ValueError", _, _, rfl, kp1, .ty _, row.ve, true, rfl, iteF ?_⟩
      -- fits
      refine ⟨_, rfl, x1.1, x1.2, i, r, u1, rfl, er, kp1, fun la H9 s9 nla hla => ?_⟩
      rw [own_map] at hla
      refine ⟨20, rfl, by decide, by decide, fun D hD => ?_⟩
      refine lc_range (lo := 0) (n := 20) (fun k H' => Same H9 H' ∧ H' D = some (.lst (((List.range k).map fun j => decide (i = j)).map V.bl))) ⟨same_new hD, upd_same⟩ (fun k H1 hk z => ?_) (fun H10 z => ?_)
      · obtain ⟨sm, hd⟩ := z
        refine ⟨rfl, yesT ⟨_, rfl, _, rfl, rfl, _, hd, by rw [List.length_map, List.length_map, List.length_range]; exact small' (by omega), Same.put sm hD, ?_⟩⟩
        have e : decide (V.int (0 + (k : Int)) = V.int ((i : Nat) : Int)) = decide (i = k) := by
          rw [decide_eq_decide]
          constructor
          · intro h
            have := V.int.inj h
            omega
          · intro h
            rw [h, Int.zero_add]
        rw [upd_same, e, List.range_succ, List.map_append, List.map_append] <;> rfl
      · obtain ⟨s10, hD10⟩ := z
        obtain ⟨db, b1, b2, b3, b4⟩ := bools_alike (K := K) (s10 _ _ hla) (show H10 D = some (.lst ((own20 i).map V.bl)) from hD10)
        refine ⟨db, db, b1, b2, b3, b3, _, rfl, ?_⟩
        rw [b4]
        have s810 := s9.trans s10
        have s710 := s8.trans s810
        refine iteF ?_
        refine ⟨_, rfl, x1.1, r.1, x1.2, u1, rfl, kp1.same s810, u1, d1, 6, 5000, rfl, (dg1.same s810).dp, fn1, by decide, by decide, _, rfl, _, rfl, D1, v1, i, u1, rfl, rfl, SqL.of (s710 _ _ gv1), atI_nat eu1, u1, d1, 6, 5000, rfl, (dg1.same s810).dp, fn1, by decide, by decide, rfl, _, rfl, ?_⟩
        rw [show decide (V.str d1.shown = V.str d1.shown) = true from decide_eq_true rfl]
        refine iteF ?_
        have em2 : (xs2.map fun x => V.ref x.1)[i]? = some (V.ref x2.1) := by rw [List.getElem?_map, ex2] <;> rfl
        refine ⟨_, rfl, _, rfl, lo, _, i, .ref x2.1, rfl, rfl, SqL.of (s710 _ _ hm2), atI_nat em2, x2.1, x2.2, i, r, u2, rfl, er, kp2.same s810, fun lb H11 s11 nlb hlb => ?_⟩
        refine ⟨_, rfl, x1.1, x1.2, i, r, u1, rfl, er, (kp1.same s810).same s11, fun lc H12 s12 nlc hlc => ?_⟩
        rw [own_map] at hlb hlc
        have s812 := s810.trans (s11.trans s12)
        have s712 := s8.trans s812
        obtain ⟨de, c1, c2, c3, c4⟩ := bools_alike (K := K) (s12 _ _ hlb) hlc
        refine ⟨de, de, c1, c2, c3, c3, _, rfl, ?_⟩
        rw [c4]
        refine iteF ?_
        refine ⟨_, rfl, _, rfl, lo, _, i, .ref x2.1, rfl, rfl, SqL.of (s712 _ _ hm2), atI_nat em2, x2.1, r.1, x2.2, u2, rfl, kp2.same s812, u2, d2, 6, 5000, rfl, (dg2.same s812).dp, fn2, by decide, by decide, _, rfl, _, rfl, D2, v2, i, u2, rfl, rfl, SqL.of (s712 _ _ gv2), atI_nat eu2, u2, d2, 6, 5000, rfl, (dg2.same s812).dp, fn2, by decide, by decide, rfl, _, rfl, ?_⟩
        rw [show decide (V.str d2.shown = V.str d2.shown) = true from decide_eq_true rfl]
        refine iteF ?_
        exact ⟨_, _, _, _, rfl, s712⟩
    · rintro σ H' ⟨w4, w7, w8, w9, rfl, sm⟩
      exact q H' (F7.trans (.of sm))

end
end KR
namespace KR
open PySem PySem.Spec PyProof.Rows L2
section
variable {P : Program} {w : World} {K : PySem.W.Frag} {mg : Str → Option Value} {base : Heap}
def sp_p_law (K : PySem.W.Frag) : Sp := fun vs H Q _ => ∃ (a : Addr) (ns : List Int), vs = [.ref a] ∧ SqL K H a (ns.map V.int) ∧ ns.length ≤ 63 ∧ ∀ H', Q (.bl true) H'
theorem ok_p_law (T : All K mg) : FnG P w K mg base 6 T.f_p_law T.fd_p_law ["_law_script"] (sp_p_law K) := by
  refine okG T.d_p_law.fn sc_p_law (fun vs H Q E h => ?_) (fun cdv A outer s H vs Q E hr hg h => ?_)
  · obtain ⟨a, ns, rfl, _⟩ := h
    rfl
  · obtain ⟨a, ns, rfl, hS, hlen, q⟩ := h
    refine ⟨_, (pss_one (ps_ret (pe_callB (allK (K := K) rfl rfl) (by rfl) T.b_all (by decide +kernel) (pa_cons (pe_lc (own := [("_law_k", 1)]) (g := gName 1) (tt := tYes) (by rfl) sc_p_law.nd (pi_range1 (by rfl) T.b_range (pa_cons (pe_op op_add pe_int (pe_callB (call_min2 rfl) (by rfl) T.b_min (by decide +kernel) (pa_cons pe_int (pa_cons (pe_callB (lenQ (K := K) rfl) (by rfl) T.b_len PySem.boot_len (pa_cons (pv 0) pa_nil)) pa_nil)))) pa_nil)) (blkOk_by (own := [("_law_k", 1)]) (N := ["_law_script", "_law_k"]) (sc := defScope s_p_law) (by decide +kernel)) (fun _ _ _ _ _ => (pg_name (i := 1) sc_p_law.nd rfl (by first | exact Or.inl rfl | exact Or.inr rfl))) (fun _ _ _ _ _ => pts_nil) (fun _ _ _ _ _ => (pe_callG (ok_l_right T) hr hg (by rfl) T.d_l_right.mg T.d_l_right.fn.kp T.d_l_right.b .nil pass0 (pa_cons (pe_call (ok_l_box T) (hr.mono (by decide)) (by rfl) T.d_l_box.mg T.d_l_box.fn.kp T.d_l_box.b .nil pass0 (pa_cons (pv 0) (pa_cons (pv 1) pa_nil))) pa_nil)))) pa_nil)))), ?_⟩
    refine ⟨_, rfl, a, _, rfl, .inl hS, _, _, rfl, _, _, rfl, rfl, _, rfl, ?_⟩
    rw [List.length_map]
    obtain ⟨m, em, m1, m2⟩ : ∃ m : Nat, (1 + (if (ns.length : Int) < 4 then (ns.length : Int) else 4)) = (m : Int) ∧ 1 ≤ m ∧ m ≤ 64 := by
      refine ⟨(1 + (if (ns.length : Int) < 4 then (ns.length : Int) else 4)).toNat, ?_, ?_, ?_⟩ <;> split <;> omega
    dsimp only
    rw [em]
    refine ⟨by omega, by omega, fun D hD => ?_⟩
    refine lc_range (lo := 0) (n := m) (fun i H' => Same H H' ∧ H' D = some (.lst (List.replicate i (.bl true)))) ⟨same_new hD, upd_same⟩ (fun i H1 hi z => ?_) (fun H1 z => ?_)
    · obtain ⟨sm, hd⟩ := z
      refine ⟨rfl, yesT ?_⟩
      refine ⟨_, rfl, _, rfl, a, ns, _, rfl, sm.seq hS, by omega, by omega, fun p H2 s2 n2 B2 => ?_⟩
      refine ⟨p, rfl, B2, fun H3 F3 => ?_⟩
      have hd2 := s2 _ _ hd
      have dp : D ≠ p := ne_of_none hd n2
      have s3 : Same H1 H3 := fun b o e => F3 b o (ne_of_none e n2) (s2 b o e)
      have hd3 := s3 _ _ hd
      refine ⟨_, hd3, by rw [List.length_replicate]; exact small' (by omega), Same.put (sm.trans s3) hD, ?_⟩
      rw [upd_same, List.replicate_succ'] <;> rfl
    · obtain ⟨sm, hd⟩ := z
      obtain ⟨t1, t2⟩ := all_true m
      refine ⟨D, List.replicate m true, rfl, SqL.of (by rw [t1]; exact hd), ?_⟩
      rw [t2]
      exact q H1

end
end KR
namespace KR
open PySem PySem.Spec PyProof.Rows L2
theorem all_mk {l : PySem.W.OpenLaw} {w : World} {K : PySem.W.Frag} {h : Heap} {mg : Str → Option Value} {fa : Addr} (X : K.In h) (G : h.Ns mainGlobals mg) (hfa : mg "law" = some (.ref fa))
    {od0 an0 : Option Addr} {sl0 : Array (Option Value)} {oc0 kV0 dc0 pm0 cd0 ct0 : Value} {f0 : Addr}
    (a0 : PySem.W.nsIn K mainGlobals "_law_cell_at" = some (some (.ref f0))) (l0 : K.lookup f0 = some ⟨oc0, od0, .func (PySem.W.fnOf "_law_cell_at" "_law_cell_at" (defArgs s_l_cell_at) (defBody s_l_cell_at) (defScope s_l_cell_at) .none kV0 dc0 pm0 an0 cd0 ct0), sl0⟩) (c0 : PySem.W.codeIn K cd0 "_law_cell_at" = true) (k0 : PySem.W.keepIn K (.ref f0) = true)
    {od1 an1 : Option Addr} {sl1 : Array (Option Value)} {oc1 kV1 dc1 pm1 cd1 ct1 : Value} {f1 : Addr}
    (a1 : PySem.W.nsIn K mainGlobals "_law_box" = some (some (.ref f1))) (l1 : K.lookup f1 = some ⟨oc1, od1, .func (PySem.W.fnOf "_law_box" "_law_box" (defArgs s_l_box) (defBody s_l_box) (defScope s_l_box) .none kV1 dc1 pm1 an1 cd1 ct1), sl1⟩) (c1 : PySem.W.codeIn K cd1 "_law_box" = true) (k1 : PySem.W.keepIn K (.ref f1) = true)
    {od2 an2 : Option Addr} {sl2 : Array (Option Value)} {oc2 kV2 dc2 pm2 cd2 ct2 : Value} {f2 : Addr}
    (a2 : PySem.W.nsIn K mainGlobals "_law_take" = some (some (.ref f2))) (l2 : K.lookup f2 = some ⟨oc2, od2, .func (PySem.W.fnOf "_law_take" "_law_take" (defArgs s_l_take) (defBody s_l_take) (defScope s_l_take) .none kV2 dc2 pm2 an2 cd2 ct2), sl2⟩) (c2 : PySem.W.codeIn K cd2 "_law_take" = true) (k2 : PySem.W.keepIn K (.ref f2) = true)
    {od3 an3 : Option Addr} {sl3 : Array (Option Value)} {oc3 kV3 dc3 pm3 cd3 ct3 : Value} {f3 : Addr}
    (a3 : PySem.W.nsIn K mainGlobals "_law_names" = some (some (.ref f3))) (l3 : K.lookup f3 = some ⟨oc3, od3, .func (PySem.W.fnOf "_law_names" "_law_names" (defArgs s_l_names) (defBody s_l_names) (defScope s_l_names) .none kV3 dc3 pm3 an3 cd3 ct3), sl3⟩) (c3 : PySem.W.codeIn K cd3 "_law_names" = true) (k3 : PySem.W.keepIn K (.ref f3) = true)
    {od4 an4 : Option Addr} {sl4 : Array (Option Value)} {oc4 kV4 dc4 pm4 cd4 ct4 : Value} {f4 : Addr}
    (a4 : PySem.W.nsIn K mainGlobals "_law_fits" = some (some (.ref f4))) (l4 : K.lookup f4 = some ⟨oc4, od4, .func (PySem.W.fnOf "_law_fits" "_law_fits" (defArgs s_l_fits) (defBody s_l_fits) (defScope s_l_fits) .none kV4 dc4 pm4 an4 cd4 ct4), sl4⟩) (c4 : PySem.W.codeIn K cd4 "_law_fits" = true) (k4 : PySem.W.keepIn K (.ref f4) = true)
    {od5 an5 : Option Addr} {sl5 : Array (Option Value)} {oc5 kV5 dc5 pm5 cd5 ct5 : Value} {f5 : Addr}
    (a5 : PySem.W.nsIn K mainGlobals "_law_thing" = some (some (.ref f5))) (l5 : K.lookup f5 = some ⟨oc5, od5, .func (PySem.W.fnOf "_law_thing" "_law_thing" (defArgs s_l_thing) (defBody s_l_thing) (defScope s_l_thing) .none kV5 dc5 pm5 an5 cd5 ct5), sl5⟩) (c5 : PySem.W.codeIn K cd5 "_law_thing" = true) (k5 : PySem.W.keepIn K (.ref f5) = true)
    {od6 an6 : Option Addr} {sl6 : Array (Option Value)} {oc6 kV6 dc6 pm6 cd6 ct6 : Value} {f6 : Addr}
    (a6 : PySem.W.nsIn K mainGlobals "_law_all_made" = some (some (.ref f6))) (l6 : K.lookup f6 = some ⟨oc6, od6, .func (PySem.W.fnOf "_law_all_made" "_law_all_made" (defArgs s_l_all_made) (defBody s_l_all_made) (defScope s_l_all_made) .none kV6 dc6 pm6 an6 cd6 ct6), sl6⟩) (c6 : PySem.W.codeIn K cd6 "_law_all_made" = true) (k6 : PySem.W.keepIn K (.ref f6) = true)
    {od7 an7 : Option Addr} {sl7 : Array (Option Value)} {oc7 kV7 dc7 pm7 cd7 ct7 : Value} {f7 : Addr}
    (a7 : PySem.W.nsIn K mainGlobals "_law_right" = some (some (.ref f7))) (l7 : K.lookup f7 = some ⟨oc7, od7, .func (PySem.W.fnOf "_law_right" "_law_right" (defArgs s_l_right) (defBody s_l_right) (defScope s_l_right) .none kV7 dc7 pm7 an7 cd7 ct7), sl7⟩) (c7 : PySem.W.codeIn K cd7 "_law_right" = true) (k7 : PySem.W.keepIn K (.ref f7) = true)
    {od8 an8 : Option Addr} {sl8 : Array (Option Value)} {oc8 kV8 dc8 pm8 cd8 ct8 : Value} {f8 : Addr}
    (a8 : PySem.W.nsIn K mainGlobals "law" = some (some (.ref f8))) (l8 : K.lookup f8 = some ⟨oc8, od8, .func (PySem.W.fnOf "law" "law" (defArgs s_p_law) (defBody s_p_law) (defScope s_p_law) .none kV8 dc8 pm8 an8 cd8 ct8), sl8⟩) (c8 : PySem.W.codeIn K cd8 "law" = true) (k8 : PySem.W.keepIn K (.ref f8) = true)
    (z_ValueError : PySem.W.nsIn K mainGlobals "ValueError" = some none)
    (z_abs : PySem.W.nsIn K mainGlobals "abs" = some none)
    (z_all : PySem.W.nsIn K mainGlobals "all" = some none)
    (z_dict : PySem.W.nsIn K mainGlobals "dict" = some none)
    (z_divmod : PySem.W.nsIn K mainGlobals "divmod" = some none)
    (z_enumerate : PySem.W.nsIn K mainGlobals "enumerate" = some none)
    (z_int : PySem.W.nsIn K mainGlobals "int" = some none)
    (z_isinstance : PySem.W.nsIn K mainGlobals "isinstance" = some none)
    (z_len : PySem.W.nsIn K mainGlobals "len" = some none)
    (z_list : PySem.W.nsIn K mainGlobals "list" = some none)
    (z_min : PySem.W.nsIn K mainGlobals "min" = some none)
    (z_range : PySem.W.nsIn K mainGlobals "range" = some none)
    (z_repr : PySem.W.nsIn K mainGlobals "repr" = some none)
    {C_BoilError : Addr} (y_BoilError : PySem.W.nsIn K mainGlobals "BoilError" = some (some (.ref C_BoilError)))
    {q_BoilError : Str} {N_BoilError : Addr} {bs_BoilError : List Value} {sn_BoilError : List Str} {sub_BoilError : List Value} {ab_BoilError : Bool} {col_BoilError : Option Bool} {dd_BoilError : Option Addr} {t2_BoilError : Tok} {m0_BoilError m1_BoilError m3_BoilError m5_BoilError : Option Value} (xL_BoilError : K.lookup C_BoilError = some (excClassObj "BoilError" q_BoilError C_BoilError N_BoilError bs_BoilError [.type "ValueError", .type "Exception", .type "BaseException", .type "object"] true sn_BoilError sub_BoilError ab_BoilError col_BoilError dd_BoilError m0_BoilError m1_BoilError (some (.str "BoilError" t2_BoilError)) m3_BoilError m5_BoilError "ValueError.__new__"))
    {C_BadFrac : Addr} (y_BadFrac : PySem.W.nsIn K mainGlobals "BadFrac" = some (some (.ref C_BadFrac)))
    {q_BadFrac : Str} {N_BadFrac : Addr} {bs_BadFrac : List Value} {sn_BadFrac : List Str} {sub_BadFrac : List Value} {ab_BadFrac : Bool} {col_BadFrac : Option Bool} {dd_BadFrac : Option Addr} {t2_BadFrac : Tok} {m0_BadFrac m1_BadFrac m3_BadFrac m5_BadFrac : Option Value} (xL_BadFrac : K.lookup C_BadFrac = some (excClassObj "BadFrac" q_BadFrac C_BadFrac N_BadFrac bs_BadFrac [.ref C_BoilError, .type "ValueError", .type "Exception", .type "BaseException", .type "object"] true sn_BadFrac sub_BadFrac ab_BadFrac col_BadFrac dd_BadFrac m0_BadFrac m1_BadFrac (some (.str "BadFrac" t2_BadFrac)) m3_BadFrac m5_BadFrac "ValueError.__new__"))
    {C_BadKettles : Addr} (y_BadKettles : PySem.W.nsIn K mainGlobals "BadKettles" = some (some (.ref C_BadKettles)))
    {q_BadKettles : Str} {N_BadKettles : Addr} {bs_BadKettles : List Value} {sn_BadKettles : List Str} {sub_BadKettles : List Value} {ab_BadKettles : Bool} {col_BadKettles : Option Bool} {dd_BadKettles : Option Addr} {t2_BadKettles : Tok} {m0_BadKettles m1_BadKettles m3_BadKettles m5_BadKettles : Option Value} (xL_BadKettles : K.lookup C_BadKettles = some (excClassObj "BadKettles" q_BadKettles C_BadKettles N_BadKettles bs_BadKettles [.ref C_BoilError, .type "ValueError", .type "Exception", .type "BaseException", .type "object"] true sn_BadKettles sub_BadKettles ab_BadKettles col_BadKettles dd_BadKettles m0_BadKettles m1_BadKettles (some (.str "BadKettles" t2_BadKettles)) m3_BadKettles m5_BadKettles "ValueError.__new__"))
    {C_BadMoulds : Addr} (y_BadMoulds : PySem.W.nsIn K mainGlobals "BadMoulds" = some (some (.ref C_BadMoulds)))
    {q_BadMoulds : Str} {N_BadMoulds : Addr} {bs_BadMoulds : List Value} {sn_BadMoulds : List Str} {sub_BadMoulds : List Value} {ab_BadMoulds : Bool} {col_BadMoulds : Option Bool} {dd_BadMoulds : Option Addr} {t2_BadMoulds : Tok} {m0_BadMoulds m1_BadMoulds m3_BadMoulds m5_BadMoulds : Option Value} (xL_BadMoulds : K.lookup C_BadMoulds = some (excClassObj "BadMoulds" q_BadMoulds C_BadMoulds N_BadMoulds bs_BadMoulds [.ref C_BoilError, .type "ValueError", .type "Exception", .type "BaseException", .type "object"] true sn_BadMoulds sub_BadMoulds ab_BadMoulds col_BadMoulds dd_BadMoulds m0_BadMoulds m1_BadMoulds (some (.str "BadMoulds" t2_BadMoulds)) m3_BadMoulds m5_BadMoulds "ValueError.__new__"))
    {C_BadRow : Addr} (y_BadRow : PySem.W.nsIn K mainGlobals "BadRow" = some (some (.ref C_BadRow)))
    {q_BadRow : Str} {N_BadRow : Addr} {bs_BadRow : List Value} {sn_BadRow : List Str} {sub_BadRow : List Value} {ab_BadRow : Bool} {col_BadRow : Option Bool} {dd_BadRow : Option Addr} {t2_BadRow : Tok} {m0_BadRow m1_BadRow m3_BadRow m5_BadRow : Option Value} (xL_BadRow : K.lookup C_BadRow = some (excClassObj "BadRow" q_BadRow C_BadRow N_BadRow bs_BadRow [.ref C_BoilError, .type "ValueError", .type "Exception", .type "BaseException", .type "object"] true sn_BadRow sub_BadRow ab_BadRow col_BadRow dd_BadRow m0_BadRow m1_BadRow (some (.str "BadRow" t2_BadRow)) m3_BadRow m5_BadRow "ValueError.__new__"))
    {C_BadDeed : Addr} (y_BadDeed : PySem.W.nsIn K mainGlobals "BadDeed" = some (some (.ref C_BadDeed)))
    {q_BadDeed : Str} {N_BadDeed : Addr} {bs_BadDeed : List Value} {sn_BadDeed : List Str} {sub_BadDeed : List Value} {ab_BadDeed : Bool} {col_BadDeed : Option Bool} {dd_BadDeed : Option Addr} {t2_BadDeed : Tok} {m0_BadDeed m1_BadDeed m3_BadDeed m5_BadDeed : Option Value} (xL_BadDeed : K.lookup C_BadDeed = some (excClassObj "BadDeed" q_BadDeed C_BadDeed N_BadDeed bs_BadDeed [.ref C_BoilError, .type "ValueError", .type "Exception", .type "BaseException", .type "object"] true sn_BadDeed sub_BadDeed ab_BadDeed col_BadDeed dd_BadDeed m0_BadDeed m1_BadDeed (some (.str "BadDeed" t2_BadDeed)) m3_BadDeed m5_BadDeed "ValueError.__new__"))
    {C_NoKettle : Addr} (y_NoKettle : PySem.W.nsIn K mainGlobals "NoKettle" = some (some (.ref C_NoKettle)))
    {q_NoKettle : Str} {N_NoKettle : Addr} {bs_NoKettle : List Value} {sn_NoKettle : List Str} {sub_NoKettle : List Value} {ab_NoKettle : Bool} {col_NoKettle : Option Bool} {dd_NoKettle : Option Addr} {t2_NoKettle : Tok} {m0_NoKettle m1_NoKettle m3_NoKettle m5_NoKettle : Option Value} (xL_NoKettle : K.lookup C_NoKettle = some (excClassObj "NoKettle" q_NoKettle C_NoKettle N_NoKettle bs_NoKettle [.ref C_BoilError, .type "ValueError", .type "Exception", .type "BaseException", .type "object"] true sn_NoKettle sub_NoKettle ab_NoKettle col_NoKettle dd_NoKettle m0_NoKettle m1_NoKettle (some (.str "NoKettle" t2_NoKettle)) m3_NoKettle m5_NoKettle "ValueError.__new__"))
    {C_NoMould : Addr} (y_NoMould : PySem.W.nsIn K mainGlobals "NoMould" = some (some (.ref C_NoMould)))
    {q_NoMould : Str} {N_NoMould : Addr} {bs_NoMould : List Value} {sn_NoMould : List Str} {sub_NoMould : List Value} {ab_NoMould : Bool} {col_NoMould : Option Bool} {dd_NoMould : Option Addr} {t2_NoMould : Tok} {m0_NoMould m1_NoMould m3_NoMould m5_NoMould : Option Value} (xL_NoMould : K.lookup C_NoMould = some (excClassObj "NoMould" q_NoMould C_NoMould N_NoMould bs_NoMould [.ref C_BoilError, .type "ValueError", .type "Exception", .type "BaseException", .type "object"] true sn_NoMould sub_NoMould ab_NoMould col_NoMould dd_NoMould m0_NoMould m1_NoMould (some (.str "NoMould" t2_NoMould)) m3_NoMould m5_NoMould "ValueError.__new__"))
    {C_NoShare : Addr} (y_NoShare : PySem.W.nsIn K mainGlobals "NoShare" = some (some (.ref C_NoShare)))
    {q_NoShare : Str} {N_NoShare : Addr} {bs_NoShare : List Value} {sn_NoShare : List Str} {sub_NoShare : List Value} {ab_NoShare : Bool} {col_NoShare : Option Bool} {dd_NoShare : Option Addr} {t2_NoShare : Tok} {m0_NoShare m1_NoShare m3_NoShare m5_NoShare : Option Value} (xL_NoShare : K.lookup C_NoShare = some (excClassObj "NoShare" q_NoShare C_NoShare N_NoShare bs_NoShare [.ref C_BoilError, .type "ValueError", .type "Exception", .type "BaseException", .type "object"] true sn_NoShare sub_NoShare ab_NoShare col_NoShare dd_NoShare m0_NoShare m1_NoShare (some (.str "NoShare" t2_NoShare)) m3_NoShare m5_NoShare "ValueError.__new__"))
    {C_NoRoom : Addr} (y_NoRoom : PySem.W.nsIn K mainGlobals "NoRoom" = some (some (.ref C_NoRoom)))
    {q_NoRoom : Str} {N_NoRoom : Addr} {bs_NoRoom : List Value} {sn_NoRoom : List Str} {sub_NoRoom : List Value} {ab_NoRoom : Bool} {col_NoRoom : Option Bool} {dd_NoRoom : Option Addr} {t2_NoRoom : Tok} {m0_NoRoom m1_NoRoom m3_NoRoom m5_NoRoom : Option Value} (xL_NoRoom : K.lookup C_NoRoom = some (excClassObj "NoRoom" q_NoRoom C_NoRoom N_NoRoom bs_NoRoom [.ref C_BoilError, .type "ValueError", .type "Exception", .type "BaseException", .type "object"] true sn_NoRoom sub_NoRoom ab_NoRoom col_NoRoom dd_NoRoom m0_NoRoom m1_NoRoom (some (.str "NoRoom" t2_NoRoom)) m3_NoRoom m5_NoRoom "ValueError.__new__"))
    {C_NoHour : Addr} (y_NoHour : PySem.W.nsIn K mainGlobals "NoHour" = some (some (.ref C_NoHour)))
    {q_NoHour : Str} {N_NoHour : Addr} {bs_NoHour : List Value} {sn_NoHour : List Str} {sub_NoHour : List Value} {ab_NoHour : Bool} {col_NoHour : Option Bool} {dd_NoHour : Option Addr} {t2_NoHour : Tok} {m0_NoHour m1_NoHour m3_NoHour m5_NoHour : Option Value} (xL_NoHour : K.lookup C_NoHour = some (excClassObj "NoHour" q_NoHour C_NoHour N_NoHour bs_NoHour [.ref C_BoilError, .type "ValueError", .type "Exception", .type "BaseException", .type "object"] true sn_NoHour sub_NoHour ab_NoHour col_NoHour dd_NoHour m0_NoHour m1_NoHour (some (.str "NoHour" t2_NoHour)) m3_NoHour m5_NoHour "ValueError.__new__"))
    {C_NoTelling : Addr} (y_NoTelling : PySem.W.nsIn K mainGlobals "NoTelling" = some (some (.ref C_NoTelling)))
    {q_NoTelling : Str} {N_NoTelling : Addr} {bs_NoTelling : List Value} {sn_NoTelling : List Str} {sub_NoTelling : List Value} {ab_NoTelling : Bool} {col_NoTelling : Option Bool} {dd_NoTelling : Option Addr} {t2_NoTelling : Tok} {m0_NoTelling m1_NoTelling m3_NoTelling m5_NoTelling : Option Value} (xL_NoTelling : K.lookup C_NoTelling = some (excClassObj "NoTelling" q_NoTelling C_NoTelling N_NoTelling bs_NoTelling [.ref C_BoilError, .type "ValueError", .type "Exception", .type "BaseException", .type "object"] true sn_NoTelling sub_NoTelling ab_NoTelling col_NoTelling dd_NoTelling m0_NoTelling m1_NoTelling (some (.str "NoTelling" t2_NoTelling)) m3_NoTelling m5_NoTelling "ValueError.__new__"))
    {C_NoSteady : Addr} (y_NoSteady : PySem.W.nsIn K mainGlobals "NoSteady" = some (some (.ref C_NoSteady)))
    {q_NoSteady : Str} {N_NoSteady : Addr} {bs_NoSteady : List Value} {sn_NoSteady : List Str} {sub_NoSteady : List Value} {ab_NoSteady : Bool} {col_NoSteady : Option Bool} {dd_NoSteady : Option Addr} {t2_NoSteady : Tok} {m0_NoSteady m1_NoSteady m3_NoSteady m5_NoSteady : Option Value} (xL_NoSteady : K.lookup C_NoSteady = some (excClassObj "NoSteady" q_NoSteady C_NoSteady N_NoSteady bs_NoSteady [.ref C_BoilError, .type "ValueError", .type "Exception", .type "BaseException", .type "object"] true sn_NoSteady sub_NoSteady ab_NoSteady col_NoSteady dd_NoSteady m0_NoSteady m1_NoSteady (some (.str "NoSteady" t2_NoSteady)) m3_NoSteady m5_NoSteady "ValueError.__new__"))
    {C_Empty : Addr} (y_Empty : PySem.W.nsIn K mainGlobals "Empty" = some (some (.ref C_Empty)))
    {q_Empty : Str} {N_Empty : Addr} {bs_Empty : List Value} {sn_Empty : List Str} {sub_Empty : List Value} {ab_Empty : Bool} {col_Empty : Option Bool} {dd_Empty : Option Addr} {t2_Empty : Tok} {m0_Empty m1_Empty m3_Empty m5_Empty : Option Value} (xL_Empty : K.lookup C_Empty = some (excClassObj "Empty" q_Empty C_Empty N_Empty bs_Empty [.ref C_BoilError, .type "ValueError", .type "Exception", .type "BaseException", .type "object"] true sn_Empty sub_Empty ab_Empty col_Empty dd_Empty m0_Empty m1_Empty (some (.str "Empty" t2_Empty)) m3_Empty m5_Empty "ValueError.__new__"))
    {C_Same : Addr} (y_Same : PySem.W.nsIn K mainGlobals "Same" = some (some (.ref C_Same)))
    {q_Same : Str} {N_Same : Addr} {bs_Same : List Value} {sn_Same : List Str} {sub_Same : List Value} {ab_Same : Bool} {col_Same : Option Bool} {dd_Same : Option Addr} {t2_Same : Tok} {m0_Same m1_Same m3_Same m5_Same : Option Value} (xL_Same : K.lookup C_Same = some (excClassObj "Same" q_Same C_Same N_Same bs_Same [.ref C_BoilError, .type "ValueError", .type "Exception", .type "BaseException", .type "object"] true sn_Same sub_Same ab_Same col_Same dd_Same m0_Same m1_Same (some (.str "Same" t2_Same)) m3_Same m5_Same "ValueError.__new__"))
    {C_Stopped : Addr} (y_Stopped : PySem.W.nsIn K mainGlobals "Stopped" = some (some (.ref C_Stopped)))
    {q_Stopped : Str} {N_Stopped : Addr} {bs_Stopped : List Value} {sn_Stopped : List Str} {sub_Stopped : List Value} {ab_Stopped : Bool} {col_Stopped : Option Bool} {dd_Stopped : Option Addr} {t2_Stopped : Tok} {m0_Stopped m1_Stopped m3_Stopped m5_Stopped : Option Value} (xL_Stopped : K.lookup C_Stopped = some (excClassObj "Stopped" q_Stopped C_Stopped N_Stopped bs_Stopped [.ref C_BoilError, .type "ValueError", .type "Exception", .type "BaseException", .type "object"] true sn_Stopped sub_Stopped ab_Stopped col_Stopped dd_Stopped m0_Stopped m1_Stopped (some (.str "Stopped" t2_Stopped)) m3_Stopped m5_Stopped "ValueError.__new__"))
    {C_InWork : Addr} (y_InWork : PySem.W.nsIn K mainGlobals "InWork" = some (some (.ref C_InWork)))
    {q_InWork : Str} {N_InWork : Addr} {bs_InWork : List Value} {sn_InWork : List Str} {sub_InWork : List Value} {ab_InWork : Bool} {col_InWork : Option Bool} {dd_InWork : Option Addr} {t2_InWork : Tok} {m0_InWork m1_InWork m3_InWork m5_InWork : Option Value} (xL_InWork : K.lookup C_InWork = some (excClassObj "InWork" q_InWork C_InWork N_InWork bs_InWork [.ref C_BoilError, .type "ValueError", .type "Exception", .type "BaseException", .type "object"] true sn_InWork sub_InWork ab_InWork col_InWork dd_InWork m0_InWork m1_InWork (some (.str "InWork" t2_InWork)) m3_InWork m5_InWork "ValueError.__new__"))
    {C_NotReady : Addr} (y_NotReady : PySem.W.nsIn K mainGlobals "NotReady" = some (some (.ref C_NotReady)))
    {q_NotReady : Str} {N_NotReady : Addr} {bs_NotReady : List Value} {sn_NotReady : List Str} {sub_NotReady : List Value} {ab_NotReady : Bool} {col_NotReady : Option Bool} {dd_NotReady : Option Addr} {t2_NotReady : Tok} {m0_NotReady m1_NotReady m3_NotReady m5_NotReady : Option Value} (xL_NotReady : K.lookup C_NotReady = some (excClassObj "NotReady" q_NotReady C_NotReady N_NotReady bs_NotReady [.ref C_BoilError, .type "ValueError", .type "Exception", .type "BaseException", .type "object"] true sn_NotReady sub_NotReady ab_NotReady col_NotReady dd_NotReady m0_NotReady m1_NotReady (some (.str "NotReady" t2_NotReady)) m3_NotReady m5_NotReady "ValueError.__new__"))
    {C_TooStrong : Addr} (y_TooStrong : PySem.W.nsIn K mainGlobals "TooStrong" = some (some (.ref C_TooStrong)))
    {q_TooStrong : Str} {N_TooStrong : Addr} {bs_TooStrong : List Value} {sn_TooStrong : List Str} {sub_TooStrong : List Value} {ab_TooStrong : Bool} {col_TooStrong : Option Bool} {dd_TooStrong : Option Addr} {t2_TooStrong : Tok} {m0_TooStrong m1_TooStrong m3_TooStrong m5_TooStrong : Option Value} (xL_TooStrong : K.lookup C_TooStrong = some (excClassObj "TooStrong" q_TooStrong C_TooStrong N_TooStrong bs_TooStrong [.ref C_BoilError, .type "ValueError", .type "Exception", .type "BaseException", .type "object"] true sn_TooStrong sub_TooStrong ab_TooStrong col_TooStrong dd_TooStrong m0_TooStrong m1_TooStrong (some (.str "TooStrong" t2_TooStrong)) m3_TooStrong m5_TooStrong "ValueError.__new__"))
    {C_Cured : Addr} (y_Cured : PySem.W.nsIn K mainGlobals "Cured" = some (some (.ref C_Cured)))
    {q_Cured : Str} {N_Cured : Addr} {bs_Cured : List Value} {sn_Cured : List Str} {sub_Cured : List Value} {ab_Cured : Bool} {col_Cured : Option Bool} {dd_Cured : Option Addr} {t2_Cured : Tok} {m0_Cured m1_Cured m3_Cured m5_Cured : Option Value} (xL_Cured : K.lookup C_Cured = some (excClassObj "Cured" q_Cured C_Cured N_Cured bs_Cured [.ref C_BoilError, .type "ValueError", .type "Exception", .type "BaseException", .type "object"] true sn_Cured sub_Cured ab_Cured col_Cured dd_Cured m0_Cured m1_Cured (some (.str "Cured" t2_Cured)) m3_Cured m5_Cured "ValueError.__new__"))
    {C_NotCured : Addr} (y_NotCured : PySem.W.nsIn K mainGlobals "NotCured" = some (some (.ref C_NotCured)))
    {q_NotCured : Str} {N_NotCured : Addr} {bs_NotCured : List Value} {sn_NotCured : List Str} {sub_NotCured : List Value} {ab_NotCured : Bool} {col_NotCured : Option Bool} {dd_NotCured : Option Addr} {t2_NotCured : Tok} {m0_NotCured m1_NotCured m3_NotCured m5_NotCured : Option Value} (xL_NotCured : K.lookup C_NotCured = some (excClassObj "NotCured" q_NotCured C_NotCured N_NotCured bs_NotCured [.ref C_BoilError, .type "ValueError", .type "Exception", .type "BaseException", .type "object"] true sn_NotCured sub_NotCured ab_NotCured col_NotCured dd_NotCured m0_NotCured m1_NotCured (some (.str "NotCured" t2_NotCured)) m3_NotCured m5_NotCured "ValueError.__new__"))
    (ege : PySem.W.specialIn K (.builtin "object.__class__") "__get__" = some (some (.builtin "getset_descriptor.__get__"))) (etk : PySem.W.takesIn K (.builtin "object.__class__") = some true)
    {fI_BadFrac : Addr} {odI_BadFrac anI_BadFrac : Option Addr} {ocI_BadFrac kVI_BadFrac dcI_BadFrac pmI_BadFrac cdI_BadFrac ctI_BadFrac : Value} {slI_BadFrac : Array (Option Value)}
    (xsa_BadFrac : PySem.W.findIn K (.ref C_BadFrac) "__setattr__" = some (some (.builtin "object.__setattr__")))
    (xk_BadFrac : PySem.W.keepIn K (.ref C_BadFrac) = true)
    (xi_BadFrac : PySem.W.findIn K (.ref C_BadFrac) "__init__" = some (some (.ref fI_BadFrac)))
    (xti_BadFrac : PySem.W.typeIn K (.ref fI_BadFrac) = some (.type "function"))
    (xl_BadFrac : K.lookup fI_BadFrac = some ⟨ocI_BadFrac, odI_BadFrac, .func (PySem.W.fnOf "__init__" "BadFrac.__init__" (defArgs s_init_BadFrac) (defBody s_init_BadFrac) (defScope s_init_BadFrac) .none kVI_BadFrac dcI_BadFrac pmI_BadFrac anI_BadFrac cdI_BadFrac ctI_BadFrac), slI_BadFrac⟩)
    (xc_BadFrac : PySem.W.codeIn K cdI_BadFrac "BadFrac.__init__" = true)
    (xki_BadFrac : PySem.W.keepIn K (.ref fI_BadFrac) = true)
    (ega_BadFrac : PySem.W.findIn K (.ref C_BadFrac) "__getattribute__" = some (some (.builtin "BaseException.__getattribute__")))
    (egg_BadFrac : PySem.W.findIn K (.ref C_BadFrac) "__getattr__" = some none)
    (ecs_BadFrac : PySem.W.findIn K (.ref C_BadFrac) "__class__" = some (some (.builtin "object.__class__")))
    (efw_BadFrac : PySem.W.findIn K (.ref C_BadFrac) "word" = some none)
    (ern_BadFrac : PySem.W.readsIn K C_BadFrac (.type "type") = true)
    (efc_BadFrac : PySem.W.findCls K (.ref C_BadFrac) (.type "type") "__name__" = some (.get (.builtin "getset_descriptor.__get__") (.builtin "type.__name__") (.ref C_BadFrac) (.type "type")))
    (efl_BadFrac : PySem.W.findIn K (.ref C_BadFrac) "what" = some none)
    {fI_BadKettles : Addr} {odI_BadKettles anI_BadKettles : Option Addr} {ocI_BadKettles kVI_BadKettles dcI_BadKettles pmI_BadKettles cdI_BadKettles ctI_BadKettles : Value} {slI_BadKettles : Array (Option Value)}
    (xsa_BadKettles : PySem.W.findIn K (.ref C_BadKettles) "__setattr__" = some (some (.builtin "object.__setattr__")))
    (xk_BadKettles : PySem.W.keepIn K (.ref C_BadKettles) = true)
    (xi_BadKettles : PySem.W.findIn K (.ref C_BadKettles) "__init__" = some (some (.ref fI_BadKettles)))
    (xti_BadKettles : PySem.W.typeIn K (.ref fI_BadKettles) = some (.type "function"))
    (xl_BadKettles : K.lookup fI_BadKettles = some ⟨ocI_BadKettles, odI_BadKettles, .func (PySem.W.fnOf "__init__" "BadKettles.__init__" (defArgs s_init_BadKettles) (defBody s_init_BadKettles) (defScope s_init_BadKettles) .none kVI_BadKettles dcI_BadKettles pmI_BadKettles anI_BadKettles cdI_BadKettles ctI_BadKettles), slI_BadKettles⟩)
    (xc_BadKettles : PySem.W.codeIn K cdI_BadKettles "BadKettles.__init__" = true)
    (xki_BadKettles : PySem.W.keepIn K (.ref fI_BadKettles) = true)
    (ega_BadKettles : PySem.W.findIn K (.ref C_BadKettles) "__getattribute__" = some (some (.builtin "BaseException.__getattribute__")))
    (egg_BadKettles : PySem.W.findIn K (.ref C_BadKettles) "__getattr__" = some none)
    (ecs_BadKettles : PySem.W.findIn K (.ref C_BadKettles) "__class__" = some (some (.builtin "object.__class__")))
    (efw_BadKettles : PySem.W.findIn K (.ref C_BadKettles) "word" = some none)
    (ern_BadKettles : PySem.W.readsIn K C_BadKettles (.type "type") = true)
    (efc_BadKettles : PySem.W.findCls K (.ref C_BadKettles) (.type "type") "__name__" = some (.get (.builtin "getset_descriptor.__get__") (.builtin "type.__name__") (.ref C_BadKettles) (.type "type")))
    (efl_BadKettles : PySem.W.findIn K (.ref C_BadKettles) "what" = some none)
    {fI_BadMoulds : Addr} {odI_BadMoulds anI_BadMoulds : Option Addr} {ocI_BadMoulds kVI_BadMoulds dcI_BadMoulds pmI_BadMoulds cdI_BadMoulds ctI_BadMoulds : Value} {slI_BadMoulds : Array (Option Value)}
    (xsa_BadMoulds : PySem.W.findIn K (.ref C_BadMoulds) "__setattr__" = some (some (.builtin "object.__setattr__")))
    (xk_BadMoulds : PySem.W.keepIn K (.ref C_BadMoulds) = true)
    (xi_BadMoulds : PySem.W.findIn K (.ref C_BadMoulds) "__init__" = some (some (.ref fI_BadMoulds)))
    (xti_BadMoulds : PySem.W.typeIn K (.ref fI_BadMoulds) = some (.type "function"))
    (xl_BadMoulds : K.lookup fI_BadMoulds = some ⟨ocI_BadMoulds, odI_BadMoulds, .func (PySem.W.fnOf "__init__" "BadMoulds.__init__" (defArgs s_init_BadMoulds) (defBody s_init_BadMoulds) (defScope s_init_BadMoulds) .none kVI_BadMoulds dcI_BadMoulds pmI_BadMoulds anI_BadMoulds cdI_BadMoulds ctI_BadMoulds), slI_BadMoulds⟩)
    (xc_BadMoulds : PySem.W.codeIn K cdI_BadMoulds "BadMoulds.__init__" = true)
    (xki_BadMoulds : PySem.W.keepIn K (.ref fI_BadMoulds) = true)
    (ega_BadMoulds : PySem.W.findIn K (.ref C_BadMoulds) "__getattribute__" = some (some (.builtin "BaseException.__getattribute__")))
    (egg_BadMoulds : PySem.W.findIn K (.ref C_BadMoulds) "__getattr__" = some none)
    (ecs_BadMoulds : PySem.W.findIn K (.ref C_BadMoulds) "__class__" = some (some (.builtin "object.__class__")))
    (efw_BadMoulds : PySem.W.findIn K (.ref C_BadMoulds) "word" = some none)
    (ern_BadMoulds : PySem.W.readsIn K C_BadMoulds (.type "type") = true)
    (efc_BadMoulds : PySem.W.findCls K (.ref C_BadMoulds) (.type "type") "__name__" = some (.get (.builtin "getset_descriptor.__get__") (.builtin "type.__name__") (.ref C_BadMoulds) (.type "type")))
    (efl_BadMoulds : PySem.W.findIn K (.ref C_BadMoulds) "what" = some none)
    {fI_BadRow : Addr} {odI_BadRow anI_BadRow : Option Addr} {ocI_BadRow kVI_BadRow dcI_BadRow pmI_BadRow cdI_BadRow ctI_BadRow : Value} {slI_BadRow : Array (Option Value)}
    (xsa_BadRow : PySem.W.findIn K (.ref C_BadRow) "__setattr__" = some (some (.builtin "object.__setattr__")))
    (xk_BadRow : PySem.W.keepIn K (.ref C_BadRow) = true)
    (xi_BadRow : PySem.W.findIn K (.ref C_BadRow) "__init__" = some (some (.ref fI_BadRow)))
    (xti_BadRow : PySem.W.typeIn K (.ref fI_BadRow) = some (.type "function"))
    (xl_BadRow : K.lookup fI_BadRow = some ⟨ocI_BadRow, odI_BadRow, .func (PySem.W.fnOf "__init__" "BadRow.__init__" (defArgs s_init_BadRow) (defBody s_init_BadRow) (defScope s_init_BadRow) .none kVI_BadRow dcI_BadRow pmI_BadRow anI_BadRow cdI_BadRow ctI_BadRow), slI_BadRow⟩)
    (xc_BadRow : PySem.W.codeIn K cdI_BadRow "BadRow.__init__" = true)
    (xki_BadRow : PySem.W.keepIn K (.ref fI_BadRow) = true)
    (ega_BadRow : PySem.W.findIn K (.ref C_BadRow) "__getattribute__" = some (some (.builtin "BaseException.__getattribute__")))
    (egg_BadRow : PySem.W.findIn K (.ref C_BadRow) "__getattr__" = some none)
    (ecs_BadRow : PySem.W.findIn K (.ref C_BadRow) "__class__" = some (some (.builtin "object.__class__")))
    (efw_BadRow : PySem.W.findIn K (.ref C_BadRow) "word" = some none)
    (ern_BadRow : PySem.W.readsIn K C_BadRow (.type "type") = true)
    (efc_BadRow : PySem.W.findCls K (.ref C_BadRow) (.type "type") "__name__" = some (.get (.builtin "getset_descriptor.__get__") (.builtin "type.__name__") (.ref C_BadRow) (.type "type")))
    (efl_BadRow : PySem.W.findIn K (.ref C_BadRow) "what" = some none)
    {fI_BadDeed : Addr} {odI_BadDeed anI_BadDeed : Option Addr} {ocI_BadDeed kVI_BadDeed dcI_BadDeed pmI_BadDeed cdI_BadDeed ctI_BadDeed : Value} {slI_BadDeed : Array (Option Value)}
    (xsa_BadDeed : PySem.W.findIn K (.ref C_BadDeed) "__setattr__" = some (some (.builtin "object.__setattr__")))
    (xk_BadDeed : PySem.W.keepIn K (.ref C_BadDeed) = true)
    (xi_BadDeed : PySem.W.findIn K (.ref C_BadDeed) "__init__" = some (some (.ref fI_BadDeed)))
    (xti_BadDeed : PySem.W.typeIn K (.ref fI_BadDeed) = some (.type "function"))
    (xl_BadDeed : K.lookup fI_BadDeed = some ⟨ocI_BadDeed, odI_BadDeed, .func (PySem.W.fnOf "__init__" "BadDeed.__init__" (defArgs s_init_BadDeed) (defBody s_init_BadDeed) (defScope s_init_BadDeed) .none kVI_BadDeed dcI_BadDeed pmI_BadDeed anI_BadDeed cdI_BadDeed ctI_BadDeed), slI_BadDeed⟩)
    (xc_BadDeed : PySem.W.codeIn K cdI_BadDeed "BadDeed.__init__" = true)
    (xki_BadDeed : PySem.W.keepIn K (.ref fI_BadDeed) = true)
    (ega_BadDeed : PySem.W.findIn K (.ref C_BadDeed) "__getattribute__" = some (some (.builtin "BaseException.__getattribute__")))
    (egg_BadDeed : PySem.W.findIn K (.ref C_BadDeed) "__getattr__" = some none)
    (ecs_BadDeed : PySem.W.findIn K (.ref C_BadDeed) "__class__" = some (some (.builtin "object.__class__")))
    (efw_BadDeed : PySem.W.findIn K (.ref C_BadDeed) "word" = some none)
    (ern_BadDeed : PySem.W.readsIn K C_BadDeed (.type "type") = true)
    (efc_BadDeed : PySem.W.findCls K (.ref C_BadDeed) (.type "type") "__name__" = some (.get (.builtin "getset_descriptor.__get__") (.builtin "type.__name__") (.ref C_BadDeed) (.type "type")))
    (efl_BadDeed : PySem.W.findIn K (.ref C_BadDeed) "what" = some none)
    {fI_NoKettle : Addr} {odI_NoKettle anI_NoKettle : Option Addr} {ocI_NoKettle kVI_NoKettle dcI_NoKettle pmI_NoKettle cdI_NoKettle ctI_NoKettle : Value} {slI_NoKettle : Array (Option Value)}
    (xsa_NoKettle : PySem.W.findIn K (.ref C_NoKettle) "__setattr__" = some (some (.builtin "object.__setattr__")))
    (xk_NoKettle : PySem.W.keepIn K (.ref C_NoKettle) = true)
    (xi_NoKettle : PySem.W.findIn K (.ref C_NoKettle) "__init__" = some (some (.ref fI_NoKettle)))
    (xti_NoKettle : PySem.W.typeIn K (.ref fI_NoKettle) = some (.type "function"))
    (xl_NoKettle : K.lookup fI_NoKettle = some ⟨ocI_NoKettle, odI_NoKettle, .func (PySem.W.fnOf "__init__" "NoKettle.__init__" (defArgs s_init_NoKettle) (defBody s_init_NoKettle) (defScope s_init_NoKettle) .none kVI_NoKettle dcI_NoKettle pmI_NoKettle anI_NoKettle cdI_NoKettle ctI_NoKettle), slI_NoKettle⟩)
    (xc_NoKettle : PySem.W.codeIn K cdI_NoKettle "NoKettle.__init__" = true)
    (xki_NoKettle : PySem.W.keepIn K (.ref fI_NoKettle) = true)
    (ega_NoKettle : PySem.W.findIn K (.ref C_NoKettle) "__getattribute__" = some (some (.builtin "BaseException.__getattribute__")))
    (egg_NoKettle : PySem.W.findIn K (.ref C_NoKettle) "__getattr__" = some none)
    (ecs_NoKettle : PySem.W.findIn K (.ref C_NoKettle) "__class__" = some (some (.builtin "object.__class__")))
    (efw_NoKettle : PySem.W.findIn K (.ref C_NoKettle) "word" = some none)
    (ern_NoKettle : PySem.W.readsIn K C_NoKettle (.type "type") = true)
    (efc_NoKettle : PySem.W.findCls K (.ref C_NoKettle) (.type "type") "__name__" = some (.get (.builtin "getset_descriptor.__get__") (.builtin "type.__name__") (.ref C_NoKettle) (.type "type")))
    (efl_NoKettle : PySem.W.findIn K (.ref C_NoKettle) "what" = some none)
    {fI_NoMould : Addr} {odI_NoMould anI_NoMould : Option Addr} {ocI_NoMould kVI_NoMould dcI_NoMould pmI_NoMould cdI_NoMould ctI_NoMould : Value} {slI_NoMould : Array (Option Value)}
    (xsa_NoMould : PySem.W.findIn K (.ref C_NoMould) "__setattr__" = some (some (.builtin "object.__setattr__")))
    (xk_NoMould : PySem.W.keepIn K (.ref C_NoMould) = true)
    (xi_NoMould : PySem.W.findIn K (.ref C_NoMould) "__init__" = some (some (.ref fI_NoMould)))
    (xti_NoMould : PySem.W.typeIn K (.ref fI_NoMould) = some (.type "function"))
    (xl_NoMould : K.lookup fI_NoMould = some ⟨ocI_NoMould, odI_NoMould, .func (PySem.W.fnOf "__init__" "NoMould.__init__" (defArgs s_init_NoMould) (defBody s_init_NoMould) (defScope s_init_NoMould) .none kVI_NoMould dcI_NoMould pmI_NoMould anI_NoMould cdI_NoMould ctI_NoMould), slI_NoMould⟩)
    (xc_NoMould : PySem.W.codeIn K cdI_NoMould "NoMould.__init__" = true)
    (xki_NoMould : PySem.W.keepIn K (.ref fI_NoMould) = true)
    (ega_NoMould : PySem.W.findIn K (.ref C_NoMould) "__getattribute__" = some (some (.builtin "BaseException.__getattribute__")))
    (egg_NoMould : PySem.W.findIn K (.ref C_NoMould) "__getattr__" = some none)
    (ecs_NoMould : PySem.W.findIn K (.ref C_NoMould) "__class__" = some (some (.builtin "object.__class__")))
    (efw_NoMould : PySem.W.findIn K (.ref C_NoMould) "word" = some none)
    (ern_NoMould : PySem.W.readsIn K C_NoMould (.type "type") = true)
    (efc_NoMould : PySem.W.findCls K (.ref C_NoMould) (.type "type") "__name__" = some (.get (.builtin "getset_descriptor.__get__") (.builtin "type.__name__") (.ref C_NoMould) (.type "type")))
    (efl_NoMould : PySem.W.findIn K (.ref C_NoMould) "what" = some none)
    {fI_NoShare : Addr} {odI_NoShare anI_NoShare : Option Addr} {ocI_NoShare kVI_NoShare dcI_NoShare pmI_NoShare cdI_NoShare ctI_NoShare : Value} {slI_NoShare : Array (Option Value)}
    (xsa_NoShare : PySem.W.findIn K (.ref C_NoShare) "__setattr__" = some (some (.builtin "object.__setattr__")))
    (xk_NoShare : PySem.W.keepIn K (.ref C_NoShare) = true)
    (xi_NoShare : PySem.W.findIn K (.ref C_NoShare) "__init__" = some (some (.ref fI_NoShare)))
    (xti_NoShare : PySem.W.typeIn K (.ref fI_NoShare) = some (.type "function"))
    (xl_NoShare : K.lookup fI_NoShare = some ⟨ocI_NoShare, odI_NoShare, .func (PySem.W.fnOf "__init__" "NoShare.__init__" (defArgs s_init_NoShare) (defBody s_init_NoShare) (defScope s_init_NoShare) .none kVI_NoShare dcI_NoShare pmI_NoShare anI_NoShare cdI_NoShare ctI_NoShare), slI_NoShare⟩)
    (xc_NoShare : PySem.W.codeIn K cdI_NoShare "NoShare.__init__" = true)
    (xki_NoShare : PySem.W.keepIn K (.ref fI_NoShare) = true)
    (ega_NoShare : PySem.W.findIn K (.ref C_NoShare) "__getattribute__" = some (some (.builtin "BaseException.__getattribute__")))
    (egg_NoShare : PySem.W.findIn K (.ref C_NoShare) "__getattr__" = some none)
    (ecs_NoShare : PySem.W.findIn K (.ref C_NoShare) "__class__" = some (some (.builtin "object.__class__")))
    (efw_NoShare : PySem.W.findIn K (.ref C_NoShare) "word" = some none)
    (ern_NoShare : PySem.W.readsIn K C_NoShare (.type "type") = true)
    (efc_NoShare : PySem.W.findCls K (.ref C_NoShare) (.type "type") "__name__" = some (.get (.builtin "getset_descriptor.__get__") (.builtin "type.__name__") (.ref C_NoShare) (.type "type")))
    (efl_NoShare : PySem.W.findIn K (.ref C_NoShare) "what" = some none)
    {fI_NoRoom : Addr} {odI_NoRoom anI_NoRoom : Option Addr} {ocI_NoRoom kVI_NoRoom dcI_NoRoom pmI_NoRoom cdI_NoRoom ctI_NoRoom : Value} {slI_NoRoom : Array (Option Value)}
    (xsa_NoRoom : PySem.W.findIn K (.ref C_NoRoom) "__setattr__" = some (some (.builtin "object.__setattr__")))
    (xk_NoRoom : PySem.W.keepIn K (.ref C_NoRoom) = true)
    (xi_NoRoom : PySem.W.findIn K (.ref C_NoRoom) "__init__" = some (some (.ref fI_NoRoom)))
    (xti_NoRoom : PySem.W.typeIn K (.ref fI_NoRoom) = some (.type "function"))
    (xl_NoRoom : K.lookup fI_NoRoom = some ⟨ocI_NoRoom, odI_NoRoom, .func (PySem.W.fnOf "__init__" "NoRoom.__init__" (defArgs s_init_NoRoom) (defBody s_init_NoRoom) (defScope s_init_NoRoom) .none kVI_NoRoom dcI_NoRoom pmI_NoRoom anI_NoRoom cdI_NoRoom ctI_NoRoom), slI_NoRoom⟩)
    (xc_NoRoom : PySem.W.codeIn K cdI_NoRoom "NoRoom.__init__" = true)
    (xki_NoRoom : PySem.W.keepIn K (.ref fI_NoRoom) = true)
    (ega_NoRoom : PySem.W.findIn K (.ref C_NoRoom) "__getattribute__" = some (some (.builtin "BaseException.__getattribute__")))
    (egg_NoRoom : PySem.W.findIn K (.ref C_NoRoom) "__getattr__" = some none)
    (ecs_NoRoom : PySem.W.findIn K (.ref C_NoRoom) "__class__" = some (some (.builtin "object.__class__")))
    (efw_NoRoom : PySem.W.findIn K (.ref C_NoRoom) "word" = some none)
    (ern_NoRoom : PySem.W.readsIn K C_NoRoom (.type "type") = true)
    (efc_NoRoom : PySem.W.findCls K (.ref C_NoRoom) (.type "type") "__name__" = some (.get (.builtin "getset_descriptor.__get__") (.builtin "type.__name__") (.ref C_NoRoom) (.type "type")))
    (efl_NoRoom : PySem.W.findIn K (.ref C_NoRoom) "what" = some none)
    {fI_NoHour : Addr} {odI_NoHour anI_NoHour : Option Addr} {ocI_NoHour kVI_NoHour dcI_NoHour pmI_NoHour cdI_NoHour ctI_NoHour : Value} {slI_NoHour : Array (Option Value)}
    (xsa_NoHour : PySem.W.findIn K (.ref C_NoHour) "__setattr__" = some (some (.builtin "object.__setattr__")))
    (xk_NoHour : PySem.W.keepIn K (.ref C_NoHour) = true)
    (xi_NoHour : PySem.W.findIn K (.ref C_NoHour) "__init__" = some (some (.ref fI_NoHour)))
    (xti_NoHour : PySem.W.typeIn K (.ref fI_NoHour) = some (.type "function"))
    (xl_NoHour : K.lookup fI_NoHour = some ⟨ocI_NoHour, odI_NoHour, .func (PySem.W.fnOf "__init__" "NoHour.__init__" (defArgs s_init_NoHour) (defBody s_init_NoHour) (defScope s_init_NoHour) .none kVI_NoHour dcI_NoHour pmI_NoHour anI_NoHour cdI_NoHour ctI_NoHour), slI_NoHour⟩)
    (xc_NoHour : PySem.W.codeIn K cdI_NoHour "NoHour.__init__" = true)
    (xki_NoHour : PySem.W.keepIn K (.ref fI_NoHour) = true)
    (ega_NoHour : PySem.W.findIn K (.ref C_NoHour) "__getattribute__" = some (some (.builtin "BaseException.__getattribute__")))
    (egg_NoHour : PySem.W.findIn K (.ref C_NoHour) "__getattr__" = some none)
    (ecs_NoHour : PySem.W.findIn K (.ref C_NoHour) "__class__" = some (some (.builtin "object.__class__")))
    (efw_NoHour : PySem.W.findIn K (.ref C_NoHour) "word" = some none)
    (ern_NoHour : PySem.W.readsIn K C_NoHour (.type "type") = true)
    (efc_NoHour : PySem.W.findCls K (.ref C_NoHour) (.type "type") "__name__" = some (.get (.builtin "getset_descriptor.__get__") (.builtin "type.__name__") (.ref C_NoHour) (.type "type")))
    (efl_NoHour : PySem.W.findIn K (.ref C_NoHour) "what" = some none)
    {fI_NoTelling : Addr} {odI_NoTelling anI_NoTelling : Option Addr} {ocI_NoTelling kVI_NoTelling dcI_NoTelling pmI_NoTelling cdI_NoTelling ctI_NoTelling : Value} {slI_NoTelling : Array (Option Value)}
    (xsa_NoTelling : PySem.W.findIn K (.ref C_NoTelling) "__setattr__" = some (some (.builtin "object.__setattr__")))
    (xk_NoTelling : PySem.W.keepIn K (.ref C_NoTelling) = true)
    (xi_NoTelling : PySem.W.findIn K (.ref C_NoTelling) "__init__" = some (some (.ref fI_NoTelling)))
    (xti_NoTelling : PySem.W.typeIn K (.ref fI_NoTelling) = some (.type "function"))
    (xl_NoTelling : K.lookup fI_NoTelling = some ⟨ocI_NoTelling, odI_NoTelling, .func (PySem.W.fnOf "__init__" "NoTelling.__init__" (defArgs s_init_NoTelling) (defBody s_init_NoTelling) (defScope s_init_NoTelling) .none kVI_NoTelling dcI_NoTelling pmI_NoTelling anI_NoTelling cdI_NoTelling ctI_NoTelling), slI_NoTelling⟩)
    (xc_NoTelling : PySem.W.codeIn K cdI_NoTelling "NoTelling.__init__" = true)
    (xki_NoTelling : PySem.W.keepIn K (.ref fI_NoTelling) = true)
    (ega_NoTelling : PySem.W.findIn K (.ref C_NoTelling) "__getattribute__" = some (some (.builtin "BaseException.__getattribute__")))
    (egg_NoTelling : PySem.W.findIn K (.ref C_NoTelling) "__getattr__" = some none)
    (ecs_NoTelling : PySem.W.findIn K (.ref C_NoTelling) "__class__" = some (some (.builtin "object.__class__")))
    (efw_NoTelling : PySem.W.findIn K (.ref C_NoTelling) "word" = some none)
    (ern_NoTelling : PySem.W.readsIn K C_NoTelling (.type "type") = true)
    (efc_NoTelling : PySem.W.findCls K (.ref C_NoTelling) (.type "type") "__name__" = some (.get (.builtin "getset_descriptor.__get__") (.builtin "type.__name__") (.ref C_NoTelling) (.type "type")))
    (efl_NoTelling : PySem.W.findIn K (.ref C_NoTelling) "what" = some none)
    {fI_NoSteady : Addr} {odI_NoSteady anI_NoSteady : Option Addr} {ocI_NoSteady kVI_NoSteady dcI_NoSteady pmI_NoSteady cdI_NoSteady ctI_NoSteady : Value} {slI_NoSteady : Array (Option Value)}
    (xsa_NoSteady : PySem.W.findIn K (.ref C_NoSteady) "__setattr__" = some (some (.builtin "object.__setattr__")))
    (xk_NoSteady : PySem.W.keepIn K (.ref C_NoSteady) = true)
    (xi_NoSteady : PySem.W.findIn K (.ref C_NoSteady) "__init__" = some (some (.ref fI_NoSteady)))
    (xti_NoSteady : PySem.W.typeIn K (.ref fI_NoSteady) = some (.type "function"))
    (xl_NoSteady : K.lookup fI_NoSteady = some ⟨ocI_NoSteady, odI_NoSteady, .func (PySem.W.fnOf "__init__" "NoSteady.__init__" (defArgs s_init_NoSteady) (defBody s_init_NoSteady) (defScope s_init_NoSteady) .none kVI_NoSteady dcI_NoSteady pmI_NoSteady anI_NoSteady cdI_NoSteady ctI_NoSteady), slI_NoSteady⟩)
    (xc_NoSteady : PySem.W.codeIn K cdI_NoSteady "NoSteady.__init__" = true)
    (xki_NoSteady : PySem.W.keepIn K (.ref fI_NoSteady) = true)
    (ega_NoSteady : PySem.W.findIn K (.ref C_NoSteady) "__getattribute__" = some (some (.builtin "BaseException.__getattribute__")))
    (egg_NoSteady : PySem.W.findIn K (.ref C_NoSteady) "__getattr__" = some none)
    (ecs_NoSteady : PySem.W.findIn K (.ref C_NoSteady) "__class__" = some (some (.builtin "object.__class__")))
    (efw_NoSteady : PySem.W.findIn K (.ref C_NoSteady) "word" = some none)
    (ern_NoSteady : PySem.W.readsIn K C_NoSteady (.type "type") = true)
    (efc_NoSteady : PySem.W.findCls K (.ref C_NoSteady) (.type "type") "__name__" = some (.get (.builtin "getset_descriptor.__get__") (.builtin "type.__name__") (.ref C_NoSteady) (.type "type")))
    (efl_NoSteady : PySem.W.findIn K (.ref C_NoSteady) "what" = some none)
    {fI_Empty : Addr} {odI_Empty anI_Empty : Option Addr} {ocI_Empty kVI_Empty dcI_Empty pmI_Empty cdI_Empty ctI_Empty : Value} {slI_Empty : Array (Option Value)}
    (xsa_Empty : PySem.W.findIn K (.ref C_Empty) "__setattr__" = some (some (.builtin "object.__setattr__")))
    (xk_Empty : PySem.W.keepIn K (.ref C_Empty) = true)
    (xi_Empty : PySem.W.findIn K (.ref C_Empty) "__init__" = some (some (.ref fI_Empty)))
    (xti_Empty : PySem.W.typeIn K (.ref fI_Empty) = some (.type "function"))
    (xl_Empty : K.lookup fI_Empty = some ⟨ocI_Empty, odI_Empty, .func (PySem.W.fnOf "__init__" "Empty.__init__" (defArgs s_init_Empty) (defBody s_init_Empty) (defScope s_init_Empty) .none kVI_Empty dcI_Empty pmI_Empty anI_Empty cdI_Empty ctI_Empty), slI_Empty⟩)
    (xc_Empty : PySem.W.codeIn K cdI_Empty "Empty.__init__" = true)
    (xki_Empty : PySem.W.keepIn K (.ref fI_Empty) = true)
    (ega_Empty : PySem.W.findIn K (.ref C_Empty) "__getattribute__" = some (some (.builtin "BaseException.__getattribute__")))
    (egg_Empty : PySem.W.findIn K (.ref C_Empty) "__getattr__" = some none)
    (ecs_Empty : PySem.W.findIn K (.ref C_Empty) "__class__" = some (some (.builtin "object.__class__")))
    (efw_Empty : PySem.W.findIn K (.ref C_Empty) "word" = some none)
    (ern_Empty : PySem.W.readsIn K C_Empty (.type "type") = true)
    (efc_Empty : PySem.W.findCls K (.ref C_Empty) (.type "type") "__name__" = some (.get (.builtin "getset_descriptor.__get__") (.builtin "type.__name__") (.ref C_Empty) (.type "type")))
    (efl_Empty : PySem.W.findIn K (.ref C_Empty) "what" = some none)
    {fI_Same : Addr} {odI_Same anI_Same : Option Addr} {ocI_Same kVI_Same dcI_Same pmI_Same cdI_Same ctI_Same : Value} {slI_Same : Array (Option Value)}
    (xsa_Same : PySem.W.findIn K (.ref C_Same) "__setattr__" = some (some (.builtin "object.__setattr__")))
    (xk_Same : PySem.W.keepIn K (.ref C_Same) = true)
    (xi_Same : PySem.W.findIn K (.ref C_Same) "__init__" = some (some (.ref fI_Same)))
    (xti_Same : PySem.W.typeIn K (.ref fI_Same) = some (.type "function"))
    (xl_Same : K.lookup fI_Same = some ⟨ocI_Same, odI_Same, .func (PySem.W.fnOf "__init__" "Same.__init__" (defArgs s_init_Same) (defBody s_init_Same) (defScope s_init_Same) .none kVI_Same dcI_Same pmI_Same anI_Same cdI_Same ctI_Same), slI_Same⟩)
    (xc_Same : PySem.W.codeIn K cdI_Same "Same.__init__" = true)
    (xki_Same : PySem.W.keepIn K (.ref fI_Same) = true)
    (ega_Same : PySem.W.findIn K (.ref C_Same) "__getattribute__" = some (some (.builtin "BaseException.__getattribute__")))
    (egg_Same : PySem.W.findIn K (.ref C_Same) "__getattr__" = some none)
    (ecs_Same : PySem.W.findIn K (.ref C_Same) "__class__" = some (some (.builtin "object.__class__")))
    (efw_Same : PySem.W.findIn K (.ref C_Same) "word" = some none)
    (ern_Same : PySem.W.readsIn K C_Same (.type "type") = true)
    (efc_Same : PySem.W.findCls K (.ref C_Same) (.type "type") "__name__" = some (.get (.builtin "getset_descriptor.__get__") (.builtin "type.__name__") (.ref C_Same) (.type "type")))
    (efl_Same : PySem.W.findIn K (.ref C_Same) "what" = some none)
    {fI_Stopped : Addr} {odI_Stopped anI_Stopped : Option Addr} {ocI_Stopped kVI_Stopped dcI_Stopped pmI_Stopped cdI_Stopped ctI_Stopped : Value} {slI_Stopped : Array (Option Value)}
    (xsa_Stopped : PySem.W.findIn K (.ref C_Stopped) "__setattr__" = some (some (.builtin "object.__setattr__")))
    (xk_Stopped : PySem.W.keepIn K (.ref C_Stopped) = true)
    (xi_Stopped : PySem.W.findIn K (.ref C_Stopped) "__init__" = some (some (.ref fI_Stopped)))
    (xti_Stopped : PySem.W.typeIn K (.ref fI_Stopped) = some (.type "function"))
    (xl_Stopped : K.lookup fI_Stopped = some ⟨ocI_Stopped, odI_Stopped, .func (PySem.W.fnOf "__init__" "Stopped.__init__" (defArgs s_init_Stopped) (defBody s_init_Stopped) (defScope s_init_Stopped) .none kVI_Stopped dcI_Stopped pmI_Stopped anI_Stopped cdI_Stopped ctI_Stopped), slI_Stopped⟩)
    (xc_Stopped : PySem.W.codeIn K cdI_Stopped "Stopped.__init__" = true)
    (xki_Stopped : PySem.W.keepIn K (.ref fI_Stopped) = true)
    (ega_Stopped : PySem.W.findIn K (.ref C_Stopped) "__getattribute__" = some (some (.builtin "BaseException.__getattribute__")))
    (egg_Stopped : PySem.W.findIn K (.ref C_Stopped) "__getattr__" = some none)
    (ecs_Stopped : PySem.W.findIn K (.ref C_Stopped) "__class__" = some (some (.builtin "object.__class__")))
    (efw_Stopped : PySem.W.findIn K (.ref C_Stopped) "word" = some none)
    (ern_Stopped : PySem.W.readsIn K C_Stopped (.type "type") = true)
    (efc_Stopped : PySem.W.findCls K (.ref C_Stopped) (.type "type") "__name__" = some (.get (.builtin "getset_descriptor.__get__") (.builtin "type.__name__") (.ref C_Stopped) (.type "type")))
    (efl_Stopped : PySem.W.findIn K (.ref C_Stopped) "what" = some none)
    {fI_InWork : Addr} {odI_InWork anI_InWork : Option Addr} {ocI_InWork kVI_InWork dcI_InWork pmI_InWork cdI_InWork ctI_InWork : Value} {slI_InWork : Array (Option Value)}
    (xsa_InWork : PySem.W.findIn K (.ref C_InWork) "__setattr__" = some (some (.builtin "object.__setattr__")))
    (xk_InWork : PySem.W.keepIn K (.ref C_InWork) = true)
    (xi_InWork : PySem.W.findIn K (.ref C_InWork) "__init__" = some (some (.ref fI_InWork)))
    (xti_InWork : PySem.W.typeIn K (.ref fI_InWork) = some (.type "function"))
    (xl_InWork : K.lookup fI_InWork = some ⟨ocI_InWork, odI_InWork, .func (PySem.W.fnOf "__init__" "InWork.__init__" (defArgs s_init_InWork) (defBody s_init_InWork) (defScope s_init_InWork) .none kVI_InWork dcI_InWork pmI_InWork anI_InWork cdI_InWork ctI_InWork), slI_InWork⟩)
    (xc_InWork : PySem.W.codeIn K cdI_InWork "InWork.__init__" = true)
    (xki_InWork : PySem.W.keepIn K (.ref fI_InWork) = true)
    (ega_InWork : PySem.W.findIn K (.ref C_InWork) "__getattribute__" = some (some (.builtin "BaseException.__getattribute__")))
    (egg_InWork : PySem.W.findIn K (.ref C_InWork) "__getattr__" = some none)
    (ecs_InWork : PySem.W.findIn K (.ref C_InWork) "__class__" = some (some (.builtin "object.__class__")))
    (efw_InWork : PySem.W.findIn K (.ref C_InWork) "word" = some none)
    (ern_InWork : PySem.W.readsIn K C_InWork (.type "type") = true)
    (efc_InWork : PySem.W.findCls K (.ref C_InWork) (.type "type") "__name__" = some (.get (.builtin "getset_descriptor.__get__") (.builtin "type.__name__") (.ref C_InWork) (.type "type")))
    (efl_InWork : PySem.W.findIn K (.ref C_InWork) "what" = some none)
    {fI_NotReady : Addr} {odI_NotReady anI_NotReady : Option Addr} {ocI_NotReady kVI_NotReady dcI_NotReady pmI_NotReady cdI_NotReady ctI_NotReady : Value} {slI_NotReady : Array (Option Value)}
    (xsa_NotReady : PySem.W.findIn K (.ref C_NotReady) "__setattr__" = some (some (.builtin "object.__setattr__")))
    (xk_NotReady : PySem.W.keepIn K (.ref C_NotReady) = true)
    (xi_NotReady : PySem.W.findIn K (.ref C_NotReady) "__init__" = some (some (.ref fI_NotReady)))
    (xti_NotReady : PySem.W.typeIn K (.ref fI_NotReady) = some (.type "function"))
    (xl_NotReady : K.lookup fI_NotReady = some ⟨ocI_NotReady, odI_NotReady, .func (PySem.W.fnOf "__init__" "NotReady.__init__" (defArgs s_init_NotReady) (defBody s_init_NotReady) (defScope s_init_NotReady) .none kVI_NotReady dcI_NotReady pmI_NotReady anI_NotReady cdI_NotReady ctI_NotReady), slI_NotReady⟩)
    (xc_NotReady : PySem.W.codeIn K cdI_NotReady "NotReady.__init__" = true)
    (xki_NotReady : PySem.W.keepIn K (.ref fI_NotReady) = true)
    (ega_NotReady : PySem.W.findIn K (.ref C_NotReady) "__getattribute__" = some (some (.builtin "BaseException.__getattribute__")))
    (egg_NotReady : PySem.W.findIn K (.ref C_NotReady) "__getattr__" = some none)
    (ecs_NotReady : PySem.W.findIn K (.ref C_NotReady) "__class__" = some (some (.builtin "object.__class__")))
    (efw_NotReady : PySem.W.findIn K (.ref C_NotReady) "word" = some none)
    (ern_NotReady : PySem.W.readsIn K C_NotReady (.type "type") = true)
    (efc_NotReady : PySem.W.findCls K (.ref C_NotReady) (.type "type") "__name__" = some (.get (.builtin "getset_descriptor.__get__") (.builtin "type.__name__") (.ref C_NotReady) (.type "type")))
    (efl_NotReady : PySem.W.findIn K (.ref C_NotReady) "what" = some none)
    {fI_TooStrong : Addr} {odI_TooStrong anI_TooStrong : Option Addr} {ocI_TooStrong kVI_TooStrong dcI_TooStrong pmI_TooStrong cdI_TooStrong ctI_TooStrong : Value} {slI_TooStrong : Array (Option Value)}
    (xsa_TooStrong : PySem.W.findIn K (.ref C_TooStrong) "__setattr__" = some (some (.builtin "object.__setattr__")))
    (xk_TooStrong : PySem.W.keepIn K (.ref C_TooStrong) = true)
    (xi_TooStrong : PySem.W.findIn K (.ref C_TooStrong) "__init__" = some (some (.ref fI_TooStrong)))
    (xti_TooStrong : PySem.W.typeIn K (.ref fI_TooStrong) = some (.type "function"))
    (xl_TooStrong : K.lookup fI_TooStrong = some ⟨ocI_TooStrong, odI_TooStrong, .func (PySem.W.fnOf "__init__" "TooStrong.__init__" (defArgs s_init_TooStrong) (defBody s_init_TooStrong) (defScope s_init_TooStrong) .none kVI_TooStrong dcI_TooStrong pmI_TooStrong anI_TooStrong cdI_TooStrong ctI_TooStrong), slI_TooStrong⟩)
    (xc_TooStrong : PySem.W.codeIn K cdI_TooStrong "TooStrong.__init__" = true)
    (xki_TooStrong : PySem.W.keepIn K (.ref fI_TooStrong) = true)
    (ega_TooStrong : PySem.W.findIn K (.ref C_TooStrong) "__getattribute__" = some (some (.builtin "BaseException.__getattribute__")))
    (egg_TooStrong : PySem.W.findIn K (.ref C_TooStrong) "__getattr__" = some none)
    (ecs_TooStrong : PySem.W.findIn K (.ref C_TooStrong) "__class__" = some (some (.builtin "object.__class__")))
    (efw_TooStrong : PySem.W.findIn K (.ref C_TooStrong) "word" = some none)
    (ern_TooStrong : PySem.W.readsIn K C_TooStrong (.type "type") = true)
    (efc_TooStrong : PySem.W.findCls K (.ref C_TooStrong) (.type "type") "__name__" = some (.get (.builtin "getset_descriptor.__get__") (.builtin "type.__name__") (.ref C_TooStrong) (.type "type")))
    (efl_TooStrong : PySem.W.findIn K (.ref C_TooStrong) "what" = some none)
    {fI_Cured : Addr} {odI_Cured anI_Cured : Option Addr} {ocI_Cured kVI_Cured dcI_Cured pmI_Cured cdI_Cured ctI_Cured : Value} {slI_Cured : Array (Option Value)}
    (xsa_Cured : PySem.W.findIn K (.ref C_Cured) "__setattr__" = some (some (.builtin "object.__setattr__")))
    (xk_Cured : PySem.W.keepIn K (.ref C_Cured) = true)
    (xi_Cured : PySem.W.findIn K (.ref C_Cured) "__init__" = some (some (.ref fI_Cured)))
    (xti_Cured : PySem.W.typeIn K (.ref fI_Cured) = some (.type "function"))
    (xl_Cured : K.lookup fI_Cured = some ⟨ocI_Cured, odI_Cured, .func (PySem.W.fnOf "__init__" "Cured.__init__" (defArgs s_init_Cured) (defBody s_init_Cured) (defScope s_init_Cured) .none kVI_Cured dcI_Cured pmI_Cured anI_Cured cdI_Cured ctI_Cured), slI_Cured⟩)
    (xc_Cured : PySem.W.codeIn K cdI_Cured "Cured.__init__" = true)
    (xki_Cured : PySem.W.keepIn K (.ref fI_Cured) = true)
    (ega_Cured : PySem.W.findIn K (.ref C_Cured) "__getattribute__" = some (some (.builtin "BaseException.__getattribute__")))
    (egg_Cured : PySem.W.findIn K (.ref C_Cured) "__getattr__" = some none)
    (ecs_Cured : PySem.W.findIn K (.ref C_Cured) "__class__" = some (some (.builtin "object.__class__")))
    (efw_Cured : PySem.W.findIn K (.ref C_Cured) "word" = some none)
    (ern_Cured : PySem.W.readsIn K C_Cured (.type "type") = true)
    (efc_Cured : PySem.W.findCls K (.ref C_Cured) (.type "type") "__name__" = some (.get (.builtin "getset_descriptor.__get__") (.builtin "type.__name__") (.ref C_Cured) (.type "type")))
    (efl_Cured : PySem.W.findIn K (.ref C_Cured) "what" = some none)
    {fI_NotCured : Addr} {odI_NotCured anI_NotCured : Option Addr} {ocI_NotCured kVI_NotCured dcI_NotCured pmI_NotCured cdI_NotCured ctI_NotCured : Value} {slI_NotCured : Array (Option Value)}
    (xsa_NotCured : PySem.W.findIn K (.ref C_NotCured) "__setattr__" = some (some (.builtin "object.__setattr__")))
    (xk_NotCured : PySem.W.keepIn K (.ref C_NotCured) = true)
    (xi_NotCured : PySem.W.findIn K (.ref C_NotCured) "__init__" = some (some (.ref fI_NotCured)))
    (xti_NotCured : PySem.W.typeIn K (.ref fI_NotCured) = some (.type "function"))
    (xl_NotCured : K.lookup fI_NotCured = some ⟨ocI_NotCured, odI_NotCured, .func (PySem.W.fnOf "__init__" "NotCured.__init__" (defArgs s_init_NotCured) (defBody s_init_NotCured) (defScope s_init_NotCured) .none kVI_NotCured dcI_NotCured pmI_NotCured anI_NotCured cdI_NotCured ctI_NotCured), slI_NotCured⟩)
    (xc_NotCured : PySem.W.codeIn K cdI_NotCured "NotCured.__init__" = true)
    (xki_NotCured : PySem.W.keepIn K (.ref fI_NotCured) = true)
    (ega_NotCured : PySem.W.findIn K (.ref C_NotCured) "__getattribute__" = some (some (.builtin "BaseException.__getattribute__")))
    (egg_NotCured : PySem.W.findIn K (.ref C_NotCured) "__getattr__" = some none)
    (ecs_NotCured : PySem.W.findIn K (.ref C_NotCured) "__class__" = some (some (.builtin "object.__class__")))
    (efw_NotCured : PySem.W.findIn K (.ref C_NotCured) "word" = some none)
    (ern_NotCured : PySem.W.readsIn K C_NotCured (.type "type") = true)
    (efc_NotCured : PySem.W.findCls K (.ref C_NotCured) (.type "type") "__name__" = some (.get (.builtin "getset_descriptor.__get__") (.builtin "type.__name__") (.ref C_NotCured) (.type "type")))
    (efl_NotCured : PySem.W.findIn K (.ref C_NotCured) "what" = some none)
    : ∃ fd : FuncData, (∀ (s : Shared) (v : Value), BindsTo s fd ⟨[v], []⟩ [("_law_script", v)]) ∧ ∀ base : Heap, K.In base → base.Ns mainGlobals mg → FnG l.prog w K mg base 6 fa fd ["_law_script"] (sp_p_law K) := by
  have e := hfa.symm.trans (PySem.W.mg_of X G a8)
  cases e
  have F0 := fun_mk (st := s_l_cell_at) l0 c0 k0
  have F1 := fun_mk (st := s_l_box) l1 c1 k1
  have F2 := fun_mk (st := s_l_take) l2 c2 k2
  have F3 := fun_mk (st := s_l_names) l3 c3 k3
  have F4 := fun_mk (st := s_l_fits) l4 c4 k4
  have F5 := fun_mk (st := s_l_thing) l5 c5 k5
  have F6 := fun_mk (st := s_l_all_made) l6 c6 k6
  have F7 := fun_mk (st := s_l_right) l7 c7 k7
  have F8 := fun_mk (st := s_p_law) l8 c8 k8
  have R_BadFrac : IsRow K C_BadFrac "BadFrac" (.ref C_BoilError :: veT) := ⟨_, _, _, _, _, _, _, _, _, _, _, _, _, xL_BadFrac⟩
  have FI_BadFrac := fun_mk (st := s_init_BadFrac) xl_BadFrac xc_BadFrac xki_BadFrac
  have O_BadFrac : OexC K C_BadFrac := oex_of R_BadFrac xsa_BadFrac xk_BadFrac
  have Y_BadFrac : ExcFacts K C_BadFrac := exf_of R_BadFrac ega_BadFrac egg_BadFrac ecs_BadFrac ege etk efl_BadFrac
  have N_BadFrac : NmC K C_BadFrac "BadFrac" := ⟨⟨_, t2_BadFrac, xL_BadFrac, rfl, rfl⟩, ern_BadFrac, efw_BadFrac, efc_BadFrac⟩
  have r_BadFrac : Cls K C_BoilError  C_BadFrac "BadFrac" := ⟨R_BadFrac, xsa_BadFrac, xk_BadFrac, ega_BadFrac, egg_BadFrac, ecs_BadFrac, efl_BadFrac, ege, etk, _, _, xi_BadFrac, xti_BadFrac, FI_BadFrac.binds (ps := ["self", "what"]) fun _ _ _ _ _ _ us hl => match us, hl with | [_, _], _ => rfl, ini_BadFrac O_BadFrac Y_BadFrac N_BadFrac FI_BadFrac⟩
  have R_BadKettles : IsRow K C_BadKettles "BadKettles" (.ref C_BoilError :: veT) := ⟨_, _, _, _, _, _, _, _, _, _, _, _, _, xL_BadKettles⟩
  have FI_BadKettles := fun_mk (st := s_init_BadKettles) xl_BadKettles xc_BadKettles xki_BadKettles
  have O_BadKettles : OexC K C_BadKettles := oex_of R_BadKettles xsa_BadKettles xk_BadKettles
  have Y_BadKettles : ExcFacts K C_BadKettles := exf_of R_BadKettles ega_BadKettles egg_BadKettles ecs_BadKettles ege etk efl_BadKettles
  have N_BadKettles : NmC K C_BadKettles "BadKettles" := ⟨⟨_, t2_BadKettles, xL_BadKettles, rfl, rfl⟩, ern_BadKettles, efw_BadKettles, efc_BadKettles⟩
  have r_BadKettles : Cls K C_BoilError  C_BadKettles "BadKettles" := ⟨R_BadKettles, xsa_BadKettles, xk_BadKettles, ega_BadKettles, egg_BadKettles, ecs_BadKettles, efl_BadKettles, ege, etk, _, _, xi_BadKettles, xti_BadKettles, FI_BadKettles.binds (ps := ["self", "what"]) fun _ _ _ _ _ _ us hl => match us, hl with | [_, _], _ => rfl, ini_BadKettles O_BadKettles Y_BadKettles N_BadKettles FI_BadKettles⟩
  have R_BadMoulds : IsRow K C_BadMoulds "BadMoulds" (.ref C_BoilError :: veT) := ⟨_, _, _, _, _, _, _, _, _, _, _, _, _, xL_BadMoulds⟩
  have FI_BadMoulds := fun_mk (st := s_init_BadMoulds) xl_BadMoulds xc_BadMoulds xki_BadMoulds
  have O_BadMoulds : OexC K C_BadMoulds := oex_of R_BadMoulds xsa_BadMoulds xk_BadMoulds
  have Y_BadMoulds : ExcFacts K C_BadMoulds := exf_of R_BadMoulds ega_BadMoulds egg_BadMoulds ecs_BadMoulds ege etk efl_BadMoulds
  have N_BadMoulds : NmC K C_BadMoulds "BadMoulds" := ⟨⟨_, t2_BadMoulds, xL_BadMoulds, rfl, rfl⟩, ern_BadMoulds, efw_BadMoulds, efc_BadMoulds⟩
  have r_BadMoulds : Cls K C_BoilError  C_BadMoulds "BadMoulds" := ⟨R_BadMoulds, xsa_BadMoulds, xk_BadMoulds, ega_BadMoulds, egg_BadMoulds, ecs_BadMoulds, efl_BadMoulds, ege, etk, _, _, xi_BadMoulds, xti_BadMoulds, FI_BadMoulds.binds (ps := ["self", "what"]) fun _ _ _ _ _ _ us hl => match us, hl with | [_, _], _ => rfl, ini_BadMoulds O_BadMoulds Y_BadMoulds N_BadMoulds FI_BadMoulds⟩
  have R_BadRow : IsRow K C_BadRow "BadRow" (.ref C_BoilError :: veT) := ⟨_, _, _, _, _, _, _, _, _, _, _, _, _, xL_BadRow⟩
  have FI_BadRow := fun_mk (st := s_init_BadRow) xl_BadRow xc_BadRow xki_BadRow
  have O_BadRow : OexC K C_BadRow := oex_of R_BadRow xsa_BadRow xk_BadRow
  have Y_BadRow : ExcFacts K C_BadRow := exf_of R_BadRow ega_BadRow egg_BadRow ecs_BadRow ege etk efl_BadRow
  have N_BadRow : NmC K C_BadRow "BadRow" := ⟨⟨_, t2_BadRow, xL_BadRow, rfl, rfl⟩, ern_BadRow, efw_BadRow, efc_BadRow⟩
  have r_BadRow : Cls K C_BoilError  C_BadRow "BadRow" := ⟨R_BadRow, xsa_BadRow, xk_BadRow, ega_BadRow, egg_BadRow, ecs_BadRow, efl_BadRow, ege, etk, _, _, xi_BadRow, xti_BadRow, FI_BadRow.binds (ps := ["self", "what"]) fun _ _ _ _ _ _ us hl => match us, hl with | [_, _], _ => rfl, ini_BadRow O_BadRow Y_BadRow N_BadRow FI_BadRow⟩
  have R_BadDeed : IsRow K C_BadDeed "BadDeed" (.ref C_BoilError :: veT) := ⟨_, _, _, _, _, _, _, _, _, _, _, _, _, xL_BadDeed⟩
  have FI_BadDeed := fun_mk (st := s_init_BadDeed) xl_BadDeed xc_BadDeed xki_BadDeed
  have O_BadDeed : OexC K C_BadDeed := oex_of R_BadDeed xsa_BadDeed xk_BadDeed
  have Y_BadDeed : ExcFacts K C_BadDeed := exf_of R_BadDeed ega_BadDeed egg_BadDeed ecs_BadDeed ege etk efl_BadDeed
  have N_BadDeed : NmC K C_BadDeed "BadDeed" := ⟨⟨_, t2_BadDeed, xL_BadDeed, rfl, rfl⟩, ern_BadDeed, efw_BadDeed, efc_BadDeed⟩
  have r_BadDeed : Cls K C_BoilError  C_BadDeed "BadDeed" := ⟨R_BadDeed, xsa_BadDeed, xk_BadDeed, ega_BadDeed, egg_BadDeed, ecs_BadDeed, efl_BadDeed, ege, etk, _, _, xi_BadDeed, xti_BadDeed, FI_BadDeed.binds (ps := ["self", "what"]) fun _ _ _ _ _ _ us hl => match us, hl with | [_, _], _ => rfl, ini_BadDeed O_BadDeed Y_BadDeed N_BadDeed FI_BadDeed⟩
  have R_NoKettle : IsRow K C_NoKettle "NoKettle" (.ref C_BoilError :: veT) := ⟨_, _, _, _, _, _, _, _, _, _, _, _, _, xL_NoKettle⟩
  have FI_NoKettle := fun_mk (st := s_init_NoKettle) xl_NoKettle xc_NoKettle xki_NoKettle
  have O_NoKettle : OexC K C_NoKettle := oex_of R_NoKettle xsa_NoKettle xk_NoKettle
  have Y_NoKettle : ExcFacts K C_NoKettle := exf_of R_NoKettle ega_NoKettle egg_NoKettle ecs_NoKettle ege etk efl_NoKettle
  have N_NoKettle : NmC K C_NoKettle "NoKettle" := ⟨⟨_, t2_NoKettle, xL_NoKettle, rfl, rfl⟩, ern_NoKettle, efw_NoKettle, efc_NoKettle⟩
  have r_NoKettle : Cls K C_BoilError  C_NoKettle "NoKettle" := ⟨R_NoKettle, xsa_NoKettle, xk_NoKettle, ega_NoKettle, egg_NoKettle, ecs_NoKettle, efl_NoKettle, ege, etk, _, _, xi_NoKettle, xti_NoKettle, FI_NoKettle.binds (ps := ["self", "what"]) fun _ _ _ _ _ _ us hl => match us, hl with | [_, _], _ => rfl, ini_NoKettle O_NoKettle Y_NoKettle N_NoKettle FI_NoKettle⟩
  have R_NoMould : IsRow K C_NoMould "NoMould" (.ref C_BoilError :: veT) := ⟨_, _, _, _, _, _, _, _, _, _, _, _, _, xL_NoMould⟩
  have FI_NoMould := fun_mk (st := s_init_NoMould) xl_NoMould xc_NoMould xki_NoMould
  have O_NoMould : OexC K C_NoMould := oex_of R_NoMould xsa_NoMould xk_NoMould
  have Y_NoMould : ExcFacts K C_NoMould := exf_of R_NoMould ega_NoMould egg_NoMould ecs_NoMould ege etk efl_NoMould
  have N_NoMould : NmC K C_NoMould "NoMould" := ⟨⟨_, t2_NoMould, xL_NoMould, rfl, rfl⟩, ern_NoMould, efw_NoMould, efc_NoMould⟩
  have r_NoMould : Cls K C_BoilError  C_NoMould "NoMould" := ⟨R_NoMould, xsa_NoMould, xk_NoMould, ega_NoMould, egg_NoMould, ecs_NoMould, efl_NoMould, ege, etk, _, _, xi_NoMould, xti_NoMould, FI_NoMould.binds (ps := ["self", "what"]) fun _ _ _ _ _ _ us hl => match us, hl with | [_, _], _ => rfl, ini_NoMould O_NoMould Y_NoMould N_NoMould FI_NoMould⟩
  have R_NoShare : IsRow K C_NoShare "NoShare" (.ref C_BoilError :: veT) := ⟨_, _, _, _, _, _, _, _, _, _, _, _, _, xL_NoShare⟩
  have FI_NoShare := fun_mk (st := s_init_NoShare) xl_NoShare xc_NoShare xki_NoShare
  have O_NoShare : OexC K C_NoShare := oex_of R_NoShare xsa_NoShare xk_NoShare
  have Y_NoShare : ExcFacts K C_NoShare := exf_of R_NoShare ega_NoShare egg_NoShare ecs_NoShare ege etk efl_NoShare
  have N_NoShare : NmC K C_NoShare "NoShare" := ⟨⟨_, t2_NoShare, xL_NoShare, rfl, rfl⟩, ern_NoShare, efw_NoShare, efc_NoShare⟩
  have r_NoShare : Cls K C_BoilError  C_NoShare "NoShare" := ⟨R_NoShare, xsa_NoShare, xk_NoShare, ega_NoShare, egg_NoShare, ecs_NoShare, efl_NoShare, ege, etk, _, _, xi_NoShare, xti_NoShare, FI_NoShare.binds (ps := ["self", "what"]) fun _ _ _ _ _ _ us hl => match us, hl with | [_, _], _ => rfl, ini_NoShare O_NoShare Y_NoShare N_NoShare FI_NoShare⟩
  have R_NoRoom : IsRow K C_NoRoom "NoRoom" (.ref C_BoilError :: veT) := ⟨_, _, _, _, _, _, _, _, _, _, _, _, _, xL_NoRoom⟩
  have FI_NoRoom := fun_mk (st := s_init_NoRoom) xl_NoRoom xc_NoRoom xki_NoRoom
  have O_NoRoom : OexC K C_NoRoom := oex_of R_NoRoom xsa_NoRoom xk_NoRoom
  have Y_NoRoom : ExcFacts K C_NoRoom := exf_of R_NoRoom ega_NoRoom egg_NoRoom ecs_NoRoom ege etk efl_NoRoom
  have N_NoRoom : NmC K C_NoRoom "NoRoom" := ⟨⟨_, t2_NoRoom, xL_NoRoom, rfl, rfl⟩, ern_NoRoom, efw_NoRoom, efc_NoRoom⟩
  have r_NoRoom : Cls K C_BoilError  C_NoRoom "NoRoom" := ⟨R_NoRoom, xsa_NoRoom, xk_NoRoom, ega_NoRoom, egg_NoRoom, ecs_NoRoom, efl_NoRoom, ege, etk, _, _, xi_NoRoom, xti_NoRoom, FI_NoRoom.binds (ps := ["self", "what"]) fun _ _ _ _ _ _ us hl => match us, hl with | [_, _], _ => rfl, ini_NoRoom O_NoRoom Y_NoRoom N_NoRoom FI_NoRoom⟩
  have R_NoHour : IsRow K C_NoHour "NoHour" (.ref C_BoilError :: veT) := ⟨_, _, _, _, _, _, _, _, _, _, _, _, _, xL_NoHour⟩
  have FI_NoHour := fun_mk (st := s_init_NoHour) xl_NoHour xc_NoHour xki_NoHour
  have O_NoHour : OexC K C_NoHour := oex_of R_NoHour xsa_NoHour xk_NoHour
  have Y_NoHour : ExcFacts K C_NoHour := exf_of R_NoHour ega_NoHour egg_NoHour ecs_NoHour ege etk efl_NoHour
  have N_NoHour : NmC K C_NoHour "NoHour" := ⟨⟨_, t2_NoHour, xL_NoHour, rfl, rfl⟩, ern_NoHour, efw_NoHour, efc_NoHour⟩
  have r_NoHour : Cls K C_BoilError  C_NoHour "NoHour" := ⟨R_NoHour, xsa_NoHour, xk_NoHour, ega_NoHour, egg_NoHour, ecs_NoHour, efl_NoHour, ege, etk, _, _, xi_NoHour, xti_NoHour, FI_NoHour.binds (ps := ["self", "what"]) fun _ _ _ _ _ _ us hl => match us, hl with | [_, _], _ => rfl, ini_NoHour O_NoHour Y_NoHour N_NoHour FI_NoHour⟩
  have R_NoTelling : IsRow K C_NoTelling "NoTelling" (.ref C_BoilError :: veT) := ⟨_, _, _, _, _, _, _, _, _, _, _, _, _, xL_NoTelling⟩
  have FI_NoTelling := fun_mk (st := s_init_NoTelling) xl_NoTelling xc_NoTelling xki_NoTelling
  have O_NoTelling : OexC K C_NoTelling := oex_of R_NoTelling xsa_NoTelling xk_NoTelling
  have Y_NoTelling : ExcFacts K C_NoTelling := exf_of R_NoTelling ega_NoTelling egg_NoTelling ecs_NoTelling ege etk efl_NoTelling
  have N_NoTelling : NmC K C_NoTelling "NoTelling" := ⟨⟨_, t2_NoTelling, xL_NoTelling, rfl, rfl⟩, ern_NoTelling, efw_NoTelling, efc_NoTelling⟩
  have r_NoTelling : Cls K C_BoilError  C_NoTelling "NoTelling" := ⟨R_NoTelling, xsa_NoTelling, xk_NoTelling, ega_NoTelling, egg_NoTelling, ecs_NoTelling, efl_NoTelling, ege, etk, _, _, xi_NoTelling, xti_NoTelling, FI_NoTelling.binds (ps := ["self", "what"]) fun _ _ _ _ _ _ us hl => match us, hl with | [_, _], _ => rfl, ini_NoTelling O_NoTelling Y_NoTelling N_NoTelling FI_NoTelling⟩
  have R_NoSteady : IsRow K C_NoSteady "NoSteady" (.ref C_BoilError :: veT) := ⟨_, _, _, _, _, _, _, _, _, _, _, _, _, xL_NoSteady⟩
  have FI_NoSteady := fun_mk (st := s_init_NoSteady) xl_NoSteady xc_NoSteady xki_NoSteady
  have O_NoSteady : OexC K C_NoSteady := oex_of R_NoSteady xsa_NoSteady xk_NoSteady
  have Y_NoSteady : ExcFacts K C_NoSteady := exf_of R_NoSteady ega_NoSteady egg_NoSteady ecs_NoSteady ege etk efl_NoSteady
  have N_NoSteady : NmC K C_NoSteady "NoSteady" := ⟨⟨_, t2_NoSteady, xL_NoSteady, rfl, rfl⟩, ern_NoSteady, efw_NoSteady, efc_NoSteady⟩
  have r_NoSteady : Cls K C_BoilError  C_NoSteady "NoSteady" := ⟨R_NoSteady, xsa_NoSteady, xk_NoSteady, ega_NoSteady, egg_NoSteady, ecs_NoSteady, efl_NoSteady, ege, etk, _, _, xi_NoSteady, xti_NoSteady, FI_NoSteady.binds (ps := ["self", "what"]) fun _ _ _ _ _ _ us hl => match us, hl with | [_, _], _ => rfl, ini_NoSteady O_NoSteady Y_NoSteady N_NoSteady FI_NoSteady⟩
  have R_Empty : IsRow K C_Empty "Empty" (.ref C_BoilError :: veT) := ⟨_, _, _, _, _, _, _, _, _, _, _, _, _, xL_Empty⟩
  have FI_Empty := fun_mk (st := s_init_Empty) xl_Empty xc_Empty xki_Empty
  have O_Empty : OexC K C_Empty := oex_of R_Empty xsa_Empty xk_Empty
  have Y_Empty : ExcFacts K C_Empty := exf_of R_Empty ega_Empty egg_Empty ecs_Empty ege etk efl_Empty
  have N_Empty : NmC K C_Empty "Empty" := ⟨⟨_, t2_Empty, xL_Empty, rfl, rfl⟩, ern_Empty, efw_Empty, efc_Empty⟩
  have r_Empty : Cls K C_BoilError  C_Empty "Empty" := ⟨R_Empty, xsa_Empty, xk_Empty, ega_Empty, egg_Empty, ecs_Empty, efl_Empty, ege, etk, _, _, xi_Empty, xti_Empty, FI_Empty.binds (ps := ["self", "what"]) fun _ _ _ _ _ _ us hl => match us, hl with | [_, _], _ => rfl, ini_Empty O_Empty Y_Empty N_Empty FI_Empty⟩
  have R_Same : IsRow K C_Same "Same" (.ref C_BoilError :: veT) := ⟨_, _, _, _, _, _, _, _, _, _, _, _, _, xL_Same⟩
  have FI_Same := fun_mk (st := s_init_Same) xl_Same xc_Same xki_Same
  have O_Same : OexC K C_Same := oex_of R_Same xsa_Same xk_Same
  have Y_Same : ExcFacts K C_Same := exf_of R_Same ega_Same egg_Same ecs_Same ege etk efl_Same
  have N_Same : NmC K C_Same "Same" := ⟨⟨_, t2_Same, xL_Same, rfl, rfl⟩, ern_Same, efw_Same, efc_Same⟩
  have r_Same : Cls K C_BoilError  C_Same "Same" := ⟨R_Same, xsa_Same, xk_Same, ega_Same, egg_Same, ecs_Same, efl_Same, ege, etk, _, _, xi_Same, xti_Same, FI_Same.binds (ps := ["self", "what"]) fun _ _ _ _ _ _ us hl => match us, hl with | [_, _], _ => rfl, ini_Same O_Same Y_Same N_Same FI_Same⟩
  have R_Stopped : IsRow K C_Stopped "Stopped" (.ref C_BoilError :: veT) := ⟨_, _, _, _, _, _, _, _, _, _, _, _, _, xL_Stopped⟩
  have FI_Stopped := fun_mk (st := s_init_Stopped) xl_Stopped xc_Stopped xki_Stopped
  have O_Stopped : OexC K C_Stopped := oex_of R_Stopped xsa_Stopped xk_Stopped
  have Y_Stopped : ExcFacts K C_Stopped := exf_of R_Stopped ega_Stopped egg_Stopped ecs_Stopped ege etk efl_Stopped
  have N_Stopped : NmC K C_Stopped "Stopped" := ⟨⟨_, t2_Stopped, xL_Stopped, rfl, rfl⟩, ern_Stopped, efw_Stopped, efc_Stopped⟩
  have r_Stopped : Cls K C_BoilError  C_Stopped "Stopped" := ⟨R_Stopped, xsa_Stopped, xk_Stopped, ega_Stopped, egg_Stopped, ecs_Stopped, efl_Stopped, ege, etk, _, _, xi_Stopped, xti_Stopped, FI_Stopped.binds (ps := ["self", "what"]) fun _ _ _ _ _ _ us hl => match us, hl with | [_, _], _ => rfl, ini_Stopped O_Stopped Y_Stopped N_Stopped FI_Stopped⟩
  have R_InWork : IsRow K C_InWork "InWork" (.ref C_BoilError :: veT) := ⟨_, _, _, _, _, _, _, _, _, _, _, _, _, xL_InWork⟩
  have FI_InWork := fun_mk (st := s_init_InWork) xl_InWork xc_InWork xki_InWork
  have O_InWork : OexC K C_InWork := oex_of R_InWork xsa_InWork xk_InWork
  have Y_InWork : ExcFacts K C_InWork := exf_of R_InWork ega_InWork egg_InWork ecs_InWork ege etk efl_InWork
  have N_InWork : NmC K C_InWork "InWork" := ⟨⟨_, t2_InWork, xL_InWork, rfl, rfl⟩, ern_InWork, efw_InWork, efc_InWork⟩
  have r_InWork : Cls K C_BoilError  C_InWork "InWork" := ⟨R_InWork, xsa_InWork, xk_InWork, ega_InWork, egg_InWork, ecs_InWork, efl_InWork, ege, etk, _, _, xi_InWork, xti_InWork, FI_InWork.binds (ps := ["self", "what"]) fun _ _ _ _ _ _ us hl => match us, hl with | [_, _], _ => rfl, ini_InWork O_InWork Y_InWork N_InWork FI_InWork⟩
  have R_NotReady : IsRow K C_NotReady "NotReady" (.ref C_BoilError :: veT) := ⟨_, _, _, _, _, _, _, _, _, _, _, _, _, xL_NotReady⟩
  have FI_NotReady := fun_mk (st := s_init_NotReady) xl_NotReady xc_NotReady xki_NotReady
  have O_NotReady : OexC K C_NotReady := oex_of R_NotReady xsa_NotReady xk_NotReady
  have Y_NotReady : ExcFacts K C_NotReady := exf_of R_NotReady ega_NotReady egg_NotReady ecs_NotReady ege etk efl_NotReady
  have N_NotReady : NmC K C_NotReady "NotReady" := ⟨⟨_, t2_NotReady, xL_NotReady, rfl, rfl⟩, ern_NotReady, efw_NotReady, efc_NotReady⟩
  have r_NotReady : Cls K C_BoilError  C_NotReady "NotReady" := ⟨R_NotReady, xsa_NotReady, xk_NotReady, ega_NotReady, egg_NotReady, ecs_NotReady, efl_NotReady, ege, etk, _, _, xi_NotReady, xti_NotReady, FI_NotReady.binds (ps := ["self", "what"]) fun _ _ _ _ _ _ us hl => match us, hl with | [_, _], _ => rfl, ini_NotReady O_NotReady Y_NotReady N_NotReady FI_NotReady⟩
  have R_TooStrong : IsRow K C_TooStrong "TooStrong" (.ref C_BoilError :: veT) := ⟨_, _, _, _, _, _, _, _, _, _, _, _, _, xL_TooStrong⟩
  have FI_TooStrong := fun_mk (st := s_init_TooStrong) xl_TooStrong xc_TooStrong xki_TooStrong
  have O_TooStrong : OexC K C_TooStrong := oex_of R_TooStrong xsa_TooStrong xk_TooStrong
  have Y_TooStrong : ExcFacts K C_TooStrong := exf_of R_TooStrong ega_TooStrong egg_TooStrong ecs_TooStrong ege etk efl_TooStrong
  have N_TooStrong : NmC K C_TooStrong "TooStrong" := ⟨⟨_, t2_TooStrong, xL_TooStrong, rfl, rfl⟩, ern_TooStrong, efw_TooStrong, efc_TooStrong⟩
  have r_TooStrong : Cls K C_BoilError  C_TooStrong "TooStrong" := ⟨R_TooStrong, xsa_TooStrong, xk_TooStrong, ega_TooStrong, egg_TooStrong, ecs_TooStrong, efl_TooStrong, ege, etk, _, _, xi_TooStrong, xti_TooStrong, FI_TooStrong.binds (ps := ["self", "what"]) fun _ _ _ _ _ _ us hl => match us, hl with | [_, _], _ => rfl, ini_TooStrong O_TooStrong Y_TooStrong N_TooStrong FI_TooStrong⟩
  have R_Cured : IsRow K C_Cured "Cured" (.ref C_BoilError :: veT) := ⟨_, _, _, _, _, _, _, _, _, _, _, _, _, xL_Cured⟩
  have FI_Cured := fun_mk (st := s_init_Cured) xl_Cured xc_Cured xki_Cured
  have O_Cured : OexC K C_Cured := oex_of R_Cured xsa_Cured xk_Cured
  have Y_Cured : ExcFacts K C_Cured := exf_of R_Cured ega_Cured egg_Cured ecs_Cured ege etk efl_Cured
  have N_Cured : NmC K C_Cured "Cured" := ⟨⟨_, t2_Cured, xL_Cured, rfl, rfl⟩, ern_Cured, efw_Cured, efc_Cured⟩
  have r_Cured : Cls K C_BoilError  C_Cured "Cured" := ⟨R_Cured, xsa_Cured, xk_Cured, ega_Cured, egg_Cured, ecs_Cured, efl_Cured, ege, etk, _, _, xi_Cured, xti_Cured, FI_Cured.binds (ps := ["self", "what"]) fun _ _ _ _ _ _ us hl => match us, hl with | [_, _], _ => rfl, ini_Cured O_Cured Y_Cured N_Cured FI_Cured⟩
  have R_NotCured : IsRow K C_NotCured "NotCured" (.ref C_BoilError :: veT) := ⟨_, _, _, _, _, _, _, _, _, _, _, _, _, xL_NotCured⟩
  have FI_NotCured := fun_mk (st := s_init_NotCured) xl_NotCured xc_NotCured xki_NotCured
  have O_NotCured : OexC K C_NotCured := oex_of R_NotCured xsa_NotCured xk_NotCured
  have Y_NotCured : ExcFacts K C_NotCured := exf_of R_NotCured ega_NotCured egg_NotCured ecs_NotCured ege etk efl_NotCured
  have N_NotCured : NmC K C_NotCured "NotCured" := ⟨⟨_, t2_NotCured, xL_NotCured, rfl, rfl⟩, ern_NotCured, efw_NotCured, efc_NotCured⟩
  have r_NotCured : Cls K C_BoilError  C_NotCured "NotCured" := ⟨R_NotCured, xsa_NotCured, xk_NotCured, ega_NotCured, egg_NotCured, ecs_NotCured, efl_NotCured, ege, etk, _, _, xi_NotCured, xti_NotCured, FI_NotCured.binds (ps := ["self", "what"]) fun _ _ _ _ _ _ us hl => match us, hl with | [_, _], _ => rfl, ini_NotCured O_NotCured Y_NotCured N_NotCured FI_NotCured⟩
  let T : All K mg := ⟨_, _, ⟨F0, PySem.W.mg_of X G a0, F0.binds (ps := ["_law_script", "_law_k"]) fun _ _ _ _ _ _ us hl => match us, hl with | [_, _], _ => rfl⟩, _, _, ⟨F1, PySem.W.mg_of X G a1, F1.binds (ps := ["_law_script", "_law_k"]) fun _ _ _ _ _ _ us hl => match us, hl with | [_, _], _ => rfl⟩, _, _, ⟨F2, PySem.W.mg_of X G a2, F2.binds (ps := ["_law_box_here", "_law_many"]) fun _ _ _ _ _ _ us hl => match us, hl with | [_, _], _ => rfl⟩, _, _, ⟨F3, PySem.W.mg_of X G a3, F3.binds (ps := ["_law_box_here", "_law_many"]) fun _ _ _ _ _ _ us hl => match us, hl with | [_, _], _ => rfl⟩, _, _, ⟨F4, PySem.W.mg_of X G a4, F4.binds (ps := ["_law_caught"]) fun _ _ _ _ _ _ us hl => match us, hl with | [_], _ => rfl⟩, _, _, ⟨F5, PySem.W.mg_of X G a5, F5.binds (ps := ["_law_box_here", "_law_sort"]) fun _ _ _ _ _ _ us hl => match us, hl with | [_, _], _ => rfl⟩, _, _, ⟨F6, PySem.W.mg_of X G a6, F6.binds (ps := ["_law_things"]) fun _ _ _ _ _ _ us hl => match us, hl with | [_], _ => rfl⟩, _, _, ⟨F7, PySem.W.mg_of X G a7, F7.binds (ps := ["_law_box_here"]) fun _ _ _ _ _ _ us hl => match us, hl with | [_], _ => rfl⟩, _, _, ⟨F8, PySem.W.mg_of X G a8, F8.binds (ps := ["_law_script"]) fun _ _ _ _ _ _ us hl => match us, hl with | [_], _ => rfl⟩, PySem.W.mg_none_of X G z_ValueError, PySem.W.mg_none_of X G z_abs, PySem.W.mg_none_of X G z_all, PySem.W.mg_none_of X G z_dict, PySem.W.mg_none_of X G z_divmod, PySem.W.mg_none_of X G z_enumerate, PySem.W.mg_none_of X G z_int, PySem.W.mg_none_of X G z_isinstance, PySem.W.mg_none_of X G z_len, PySem.W.mg_none_of X G z_list, PySem.W.mg_none_of X G z_min, PySem.W.mg_none_of X G z_range, PySem.W.mg_none_of X G z_repr, _, PySem.W.mg_of X G y_BoilError, (⟨_, _, _, _, _, _, _, _, _, _, _, _, _, xL_BoilError⟩ : IsRow K C_BoilError "BoilError" veT), _, PySem.W.mg_of X G y_BadFrac, r_BadFrac, _, PySem.W.mg_of X G y_BadKettles, r_BadKettles, _, PySem.W.mg_of X G y_BadMoulds, r_BadMoulds, _, PySem.W.mg_of X G y_BadRow, r_BadRow, _, PySem.W.mg_of X G y_BadDeed, r_BadDeed, _, PySem.W.mg_of X G y_NoKettle, r_NoKettle, _, PySem.W.mg_of X G y_NoMould, r_NoMould, _, PySem.W.mg_of X G y_NoShare, r_NoShare, _, PySem.W.mg_of X G y_NoRoom, r_NoRoom, _, PySem.W.mg_of X G y_NoHour, r_NoHour, _, PySem.W.mg_of X G y_NoTelling, r_NoTelling, _, PySem.W.mg_of X G y_NoSteady, r_NoSteady, _, PySem.W.mg_of X G y_Empty, r_Empty, _, PySem.W.mg_of X G y_Same, r_Same, _, PySem.W.mg_of X G y_Stopped, r_Stopped, _, PySem.W.mg_of X G y_InWork, r_InWork, _, PySem.W.mg_of X G y_NotReady, r_NotReady, _, PySem.W.mg_of X G y_TooStrong, r_TooStrong, _, PySem.W.mg_of X G y_Cured, r_Cured, _, PySem.W.mg_of X G y_NotCured, r_NotCured⟩
  exact ⟨T.fd_p_law, fun s v => .of_eq rfl, fun base _ _ => ok_p_law T⟩
end KR
open PySem PySem.W PyProof.Rows
set_option maxRecDepth 100000 in
set_option maxHeartbeats 0 in
theorem PySem.Challenge.cw_kettlerow_k11_refusals_made_by_hand_holds : PySem.Challenge.rw_kettlerow_k11_refusals_made_by_hand.Holds := by
  w_on; o_law; k_head; (case hw => w_witness2)
  k_fill
  refine KR.walk_ofG (l := PySem.Challenge.rw_kettlerow_k11_refusals_made_by_hand) (n := 63) (k := 6) (x := "_law_script") (sp := fun w => KR.sp_p_law _) rfl (by decide) rfl ⟨rfl, by decide, by decide⟩ (fun w h Y => PySem.W.kIn_of Y) ?F (fun _ _ a ns hl _ hS => ⟨a, ns, rfl, hS, hl, fun _ => rfl⟩)
  case F =>
    intro w mg fa h KX G hmg
    refine' KR.all_mk KX G hmg ?a0 ?l0 ?c0 ?k0 ?a1 ?l1 ?c1 ?k1 ?a2 ?l2 ?c2 ?k2 ?a3 ?l3 ?c3 ?k3 ?a4 ?l4 ?c4 ?k4 ?a5 ?l5 ?c5 ?k5 ?a6 ?l6 ?c6 ?k6 ?a7 ?l7 ?c7 ?k7 ?a8 ?l8 ?c8 ?k8 ?z_ValueError ?z_abs ?z_all ?z_dict ?z_divmod ?z_enumerate ?z_int ?z_isinstance ?z_len ?z_list ?z_min ?z_range ?z_repr ?y_BoilError ?xL_BoilError ?y_BadFrac ?xL_BadFrac ?y_BadKettles ?xL_BadKettles ?y_BadMoulds ?xL_BadMoulds ?y_BadRow ?xL_BadRow ?y_BadDeed ?xL_BadDeed ?y_NoKettle ?xL_NoKettle ?y_NoMould ?xL_NoMould ?y_NoShare ?xL_NoShare ?y_NoRoom ?xL_NoRoom ?y_NoHour ?xL_NoHour ?y_NoTelling ?xL_NoTelling ?y_NoSteady ?xL_NoSteady ?y_Empty ?xL_Empty ?y_Same ?xL_Same ?y_Stopped ?xL_Stopped ?y_InWork ?xL_InWork ?y_NotReady ?xL_NotReady ?y_TooStrong ?xL_TooStrong ?y_Cured ?xL_Cured ?y_NotCured ?xL_NotCured ?ege ?etk ?xsa_BadFrac ?xk_BadFrac ?xi_BadFrac ?xti_BadFrac ?xl_BadFrac ?xc_BadFrac ?xki_BadFrac ?ega_BadFrac ?egg_BadFrac ?ecs_BadFrac ?efw_BadFrac ?ern_BadFrac ?efc_BadFrac ?efl_BadFrac ?xsa_BadKettles ?xk_BadKettles ?xi_BadKettles ?xti_BadKettles ?xl_BadKettles ?xc_BadKettles ?xki_BadKettles ?ega_BadKettles ?egg_BadKettles ?ecs_BadKettles ?efw_BadKettles ?ern_BadKettles ?efc_BadKettles ?efl_BadKettles ?xsa_BadMoulds ?xk_BadMoulds ?xi_BadMoulds ?xti_BadMoulds ?xl_BadMoulds ?xc_BadMoulds ?xki_BadMoulds ?ega_BadMoulds ?egg_BadMoulds ?ecs_BadMoulds ?efw_BadMoulds ?ern_BadMoulds ?efc_BadMoulds ?efl_BadMoulds ?xsa_BadRow ?xk_BadRow ?xi_BadRow ?xti_BadRow ?xl_BadRow ?xc_BadRow ?xki_BadRow ?ega_BadRow ?egg_BadRow ?ecs_BadRow ?efw_BadRow ?ern_BadRow ?efc_BadRow ?efl_BadRow ?xsa_BadDeed ?xk_BadDeed ?xi_BadDeed ?xti_BadDeed ?xl_BadDeed ?xc_BadDeed ?xki_BadDeed ?ega_BadDeed ?egg_BadDeed ?ecs_BadDeed ?efw_BadDeed ?ern_BadDeed ?efc_BadDeed ?efl_BadDeed ?xsa_NoKettle ?xk_NoKettle ?xi_NoKettle ?xti_NoKettle ?xl_NoKettle ?xc_NoKettle ?xki_NoKettle ?ega_NoKettle ?egg_NoKettle ?ecs_NoKettle ?efw_NoKettle ?ern_NoKettle ?efc_NoKettle ?efl_NoKettle ?xsa_NoMould ?xk_NoMould ?xi_NoMould ?xti_NoMould ?xl_NoMould ?xc_NoMould ?xki_NoMould ?ega_NoMould ?egg_NoMould ?ecs_NoMould ?efw_NoMould ?ern_NoMould ?efc_NoMould ?efl_NoMould ?xsa_NoShare ?xk_NoShare ?xi_NoShare ?xti_NoShare ?xl_NoShare ?xc_NoShare ?xki_NoShare ?ega_NoShare ?egg_NoShare ?ecs_NoShare ?efw_NoShare ?ern_NoShare ?efc_NoShare ?efl_NoShare ?xsa_NoRoom ?xk_NoRoom ?xi_NoRoom ?xti_NoRoom ?xl_NoRoom ?xc_NoRoom ?xki_NoRoom ?ega_NoRoom ?egg_NoRoom ?ecs_NoRoom ?efw_NoRoom ?ern_NoRoom ?efc_NoRoom ?efl_NoRoom ?xsa_NoHour ?xk_NoHour ?xi_NoHour ?xti_NoHour ?xl_NoHour ?xc_NoHour ?xki_NoHour ?ega_NoHour ?egg_NoHour ?ecs_NoHour ?efw_NoHour ?ern_NoHour ?efc_NoHour ?efl_NoHour ?xsa_NoTelling ?xk_NoTelling ?xi_NoTelling ?xti_NoTelling ?xl_NoTelling ?xc_NoTelling ?xki_NoTelling ?ega_NoTelling ?egg_NoTelling ?ecs_NoTelling ?efw_NoTelling ?ern_NoTelling ?efc_NoTelling ?efl_NoTelling ?xsa_NoSteady ?xk_NoSteady ?xi_NoSteady ?xti_NoSteady ?xl_NoSteady ?xc_NoSteady ?xki_NoSteady ?ega_NoSteady ?egg_NoSteady ?ecs_NoSteady ?efw_NoSteady ?ern_NoSteady ?efc_NoSteady ?efl_NoSteady ?xsa_Empty ?xk_Empty ?xi_Empty ?xti_Empty ?xl_Empty ?xc_Empty ?xki_Empty ?ega_Empty ?egg_Empty ?ecs_Empty ?efw_Empty ?ern_Empty ?efc_Empty ?efl_Empty ?xsa_Same ?xk_Same ?xi_Same ?xti_Same ?xl_Same ?xc_Same ?xki_Same ?ega_Same ?egg_Same ?ecs_Same ?efw_Same ?ern_Same ?efc_Same ?efl_Same ?xsa_Stopped ?xk_Stopped ?xi_Stopped ?xti_Stopped ?xl_Stopped ?xc_Stopped ?xki_Stopped ?ega_Stopped ?egg_Stopped ?ecs_Stopped ?efw_Stopped ?ern_Stopped ?efc_Stopped ?efl_Stopped ?xsa_InWork ?xk_InWork ?xi_InWork ?xti_InWork ?xl_InWork ?xc_InWork ?xki_InWork ?ega_InWork ?egg_InWork ?ecs_InWork ?efw_InWork ?ern_InWork ?efc_InWork ?efl_InWork ?xsa_NotReady ?xk_NotReady ?xi_NotReady ?xti_NotReady ?xl_NotReady ?xc_NotReady ?xki_NotReady ?ega_NotReady ?egg_NotReady ?ecs_NotReady ?efw_NotReady ?ern_NotReady ?efc_NotReady ?efl_NotReady ?xsa_TooStrong ?xk_TooStrong ?xi_TooStrong ?xti_TooStrong ?xl_TooStrong ?xc_TooStrong ?xki_TooStrong ?ega_TooStrong ?egg_TooStrong ?ecs_TooStrong ?efw_TooStrong ?ern_TooStrong ?efc_TooStrong ?efl_TooStrong ?xsa_Cured ?xk_Cured ?xi_Cured ?xti_Cured ?xl_Cured ?xc_Cured ?xki_Cured ?ega_Cured ?egg_Cured ?ecs_Cured ?efw_Cured ?ern_Cured ?efc_Cured ?efl_Cured ?xsa_NotCured ?xk_NotCured ?xi_NotCured ?xti_NotCured ?xl_NotCured ?xc_NotCured ?xki_NotCured ?ega_NotCured ?egg_NotCured ?ecs_NotCured ?efw_NotCured ?ern_NotCured ?efc_NotCured ?efl_NotCured
    (case a0 => k_is)
    (case l0 => k_is)
    (case c0 => k_is)
    (case k0 => k_is)
    (case a1 => k_is)
    (case l1 => k_is)
    (case c1 => k_is)
    (case k1 => k_is)
    (case a2 => k_is)
    (case l2 => k_is)
    (case c2 => k_is)
    (case k2 => k_is)
    (case a3 => k_is)
    (case l3 => k_is)
    (case c3 => k_is)
    (case k3 => k_is)
    (case a4 => k_is)
    (case l4 => k_is)
    (case c4 => k_is)
    (case k4 => k_is)
    (case a5 => k_is)
    (case l5 => k_is)
    (case c5 => k_is)
    (case k5 => k_is)
    (case a6 => k_is)
    (case l6 => k_is)
    (case c6 => k_is)
    (case k6 => k_is)
    (case a7 => k_is)
    (case l7 => k_is)
    (case c7 => k_is)
    (case k7 => k_is)
    (case a8 => k_is)
    (case l8 => k_is)
    (case c8 => k_is)
    (case k8 => k_is)
    (case z_ValueError => k_is)
    (case z_abs => k_is)
    (case z_all => k_is)
    (case z_dict => k_is)
    (case z_divmod => k_is)
    (case z_enumerate => k_is)
    (case z_int => k_is)
    (case z_isinstance => k_is)
    (case z_len => k_is)
    (case z_list => k_is)
    (case z_min => k_is)
    (case z_range => k_is)
    (case z_repr => k_is)
    (case y_BoilError => k_is)
    (case xL_BoilError => k_is)
    (case y_BadFrac => k_is)
    (case xL_BadFrac => k_is)
    (case y_BadKettles => k_is)
    (case xL_BadKettles => k_is)
    (case y_BadMoulds => k_is)
    (case xL_BadMoulds => k_is)
    (case y_BadRow => k_is)
    (case xL_BadRow => k_is)
    (case y_BadDeed => k_is)
    (case xL_BadDeed => k_is)
    (case y_NoKettle => k_is)
    (case xL_NoKettle => k_is)
    (case y_NoMould => k_is)
    (case xL_NoMould => k_is)
    (case y_NoShare => k_is)
    (case xL_NoShare => k_is)
    (case y_NoRoom => k_is)
    (case xL_NoRoom => k_is)
    (case y_NoHour => k_is)
    (case xL_NoHour => k_is)
    (case y_NoTelling => k_is)
    (case xL_NoTelling => k_is)
    (case y_NoSteady => k_is)
    (case xL_NoSteady => k_is)
    (case y_Empty => k_is)
    (case xL_Empty => k_is)
    (case y_Same => k_is)
    (case xL_Same => k_is)
    (case y_Stopped => k_is)
    (case xL_Stopped => k_is)
    (case y_InWork => k_is)
    (case xL_InWork => k_is)
    (case y_NotReady => k_is)
    (case xL_NotReady => k_is)
    (case y_TooStrong => k_is)
    (case xL_TooStrong => k_is)
    (case y_Cured => k_is)
    (case xL_Cured => k_is)
    (case y_NotCured => k_is)
    (case xL_NotCured => k_is)
    (case ege => k_is)
    (case etk => k_is)
    (case xsa_BadFrac => k_is)
    (case xk_BadFrac => k_is)
    (case xi_BadFrac => k_is)
    (case xti_BadFrac => k_is)
    (case xl_BadFrac => k_is)
    (case xc_BadFrac => k_is)
    (case xki_BadFrac => k_is)
    (case ega_BadFrac => k_is)
    (case egg_BadFrac => k_is)
    (case ecs_BadFrac => k_is)
    (case efw_BadFrac => k_is)
    (case ern_BadFrac => k_is)
    (case efc_BadFrac => k_is)
    (case efl_BadFrac => k_is)
    (case xsa_BadKettles => k_is)
    (case xk_BadKettles => k_is)
    (case xi_BadKettles => k_is)
    (case xti_BadKettles => k_is)
    (case xl_BadKettles => k_is)
    (case xc_BadKettles => k_is)
    (case xki_BadKettles => k_is)
    (case ega_BadKettles => k_is)
    (case egg_BadKettles => k_is)
    (case ecs_BadKettles => k_is)
    (case efw_BadKettles => k_is)
    (case ern_BadKettles => k_is)
    (case efc_BadKettles => k_is)
    (case efl_BadKettles => k_is)
    (case xsa_BadMoulds => k_is)
    (case xk_BadMoulds => k_is)
    (case xi_BadMoulds => k_is)
    (case xti_BadMoulds => k_is)
    (case xl_BadMoulds => k_is)
    (case xc_BadMoulds => k_is)
    (case xki_BadMoulds => k_is)
    (case ega_BadMoulds => k_is)
    (case egg_BadMoulds => k_is)
    (case ecs_BadMoulds => k_is)
    (case efw_BadMoulds => k_is)
    (case ern_BadMoulds => k_is)
    (case efc_BadMoulds => k_is)
    (case efl_BadMoulds => k_is)
    (case xsa_BadRow => k_is)
    (case xk_BadRow => k_is)
    (case xi_BadRow => k_is)
    (case xti_BadRow => k_is)
    (case xl_BadRow => k_is)
    (case xc_BadRow => k_is)
    (case xki_BadRow => k_is)
    (case ega_BadRow => k_is)
    (case egg_BadRow => k_is)
    (case ecs_BadRow => k_is)
    (case efw_BadRow => k_is)
    (case ern_BadRow => k_is)
    (case efc_BadRow => k_is)
    (case efl_BadRow => k_is)
    (case xsa_BadDeed => k_is)
    (case xk_BadDeed => k_is)
    (case xi_BadDeed => k_is)
    (case xti_BadDeed => k_is)
    (case xl_BadDeed => k_is)
    (case xc_BadDeed => k_is)
    (case xki_BadDeed => k_is)
    (case ega_BadDeed => k_is)
    (case egg_BadDeed => k_is)
    (case ecs_BadDeed => k_is)
    (case efw_BadDeed => k_is)
    (case ern_BadDeed => k_is)
    (case efc_BadDeed => k_is)
    (case efl_BadDeed => k_is)
    (case xsa_NoKettle => k_is)
    (case xk_NoKettle => k_is)
    (case xi_NoKettle => k_is)
    (case xti_NoKettle => k_is)
    (case xl_NoKettle => k_is)
    (case xc_NoKettle => k_is)
    (case xki_NoKettle => k_is)
    (case ega_NoKettle => k_is)
    (case egg_NoKettle => k_is)
    (case ecs_NoKettle => k_is)
    (case efw_NoKettle => k_is)
    (case ern_NoKettle => k_is)
    (case efc_NoKettle => k_is)
    (case efl_NoKettle => k_is)
    (case xsa_NoMould => k_is)
    (case xk_NoMould => k_is)
    (case xi_NoMould => k_is)
    (case xti_NoMould => k_is)
    (case xl_NoMould => k_is)
    (case xc_NoMould => k_is)
    (case xki_NoMould => k_is)
    (case ega_NoMould => k_is)
    (case egg_NoMould => k_is)
    (case ecs_NoMould => k_is)
    (case efw_NoMould => k_is)
    (case ern_NoMould => k_is)
    (case efc_NoMould => k_is)
    (case efl_NoMould => k_is)
    (case xsa_NoShare => k_is)
    (case xk_NoShare => k_is)
    (case xi_NoShare => k_is)
    (case xti_NoShare => k_is)
    (case xl_NoShare => k_is)
    (case xc_NoShare => k_is)
    (case xki_NoShare => k_is)
    (case ega_NoShare => k_is)
    (case egg_NoShare => k_is)
    (case ecs_NoShare => k_is)
    (case efw_NoShare => k_is)
    (case ern_NoShare => k_is)
    (case efc_NoShare => k_is)
    (case efl_NoShare => k_is)
    (case xsa_NoRoom => k_is)
    (case xk_NoRoom => k_is)
    (case xi_NoRoom => k_is)
    (case xti_NoRoom => k_is)
    (case xl_NoRoom => k_is)
    (case xc_NoRoom => k_is)
    (case xki_NoRoom => k_is)
    (case ega_NoRoom => k_is)
    (case egg_NoRoom => k_is)
    (case ecs_NoRoom => k_is)
    (case efw_NoRoom => k_is)
    (case ern_NoRoom => k_is)
    (case efc_NoRoom => k_is)
    (case efl_NoRoom => k_is)
    (case xsa_NoHour => k_is)
    (case xk_NoHour => k_is)
    (case xi_NoHour => k_is)
    (case xti_NoHour => k_is)
    (case xl_NoHour => k_is)
    (case xc_NoHour => k_is)
    (case xki_NoHour => k_is)
    (case ega_NoHour => k_is)
    (case egg_NoHour => k_is)
    (case ecs_NoHour => k_is)
    (case efw_NoHour => k_is)
    (case ern_NoHour => k_is)
    (case efc_NoHour => k_is)
    (case efl_NoHour => k_is)
    (case xsa_NoTelling => k_is)
    (case xk_NoTelling => k_is)
    (case xi_NoTelling => k_is)
    (case xti_NoTelling => k_is)
    (case xl_NoTelling => k_is)
    (case xc_NoTelling => k_is)
    (case xki_NoTelling => k_is)
    (case ega_NoTelling => k_is)
    (case egg_NoTelling => k_is)
    (case ecs_NoTelling => k_is)
    (case efw_NoTelling => k_is)
    (case ern_NoTelling => k_is)
    (case efc_NoTelling => k_is)
    (case efl_NoTelling => k_is)
    (case xsa_NoSteady => k_is)
    (case xk_NoSteady => k_is)
    (case xi_NoSteady => k_is)
    (case xti_NoSteady => k_is)
    (case xl_NoSteady => k_is)
    (case xc_NoSteady => k_is)
    (case xki_NoSteady => k_is)
    (case ega_NoSteady => k_is)
    (case egg_NoSteady => k_is)
    (case ecs_NoSteady => k_is)
    (case efw_NoSteady => k_is)
    (case ern_NoSteady => k_is)
    (case efc_NoSteady => k_is)
    (case efl_NoSteady => k_is)
    (case xsa_Empty => k_is)
    (case xk_Empty => k_is)
    (case xi_Empty => k_is)
    (case xti_Empty => k_is)
    (case xl_Empty => k_is)
    (case xc_Empty => k_is)
    (case xki_Empty => k_is)
    (case ega_Empty => k_is)
    (case egg_Empty => k_is)
    (case ecs_Empty => k_is)
    (case efw_Empty => k_is)
    (case ern_Empty => k_is)
    (case efc_Empty => k_is)
    (case efl_Empty => k_is)
    (case xsa_Same => k_is)
    (case xk_Same => k_is)
    (case xi_Same => k_is)
    (case xti_Same => k_is)
    (case xl_Same => k_is)
    (case xc_Same => k_is)
    (case xki_Same => k_is)
    (case ega_Same => k_is)
    (case egg_Same => k_is)
    (case ecs_Same => k_is)
    (case efw_Same => k_is)
    (case ern_Same => k_is)
    (case efc_Same => k_is)
    (case efl_Same => k_is)
    (case xsa_Stopped => k_is)
    (case xk_Stopped => k_is)
    (case xi_Stopped => k_is)
    (case xti_Stopped => k_is)
    (case xl_Stopped => k_is)
    (case xc_Stopped => k_is)
    (case xki_Stopped => k_is)
    (case ega_Stopped => k_is)
    (case egg_Stopped => k_is)
    (case ecs_Stopped => k_is)
    (case efw_Stopped => k_is)
    (case ern_Stopped => k_is)
    (case efc_Stopped => k_is)
    (case efl_Stopped => k_is)
    (case xsa_InWork => k_is)
    (case xk_InWork => k_is)
    (case xi_InWork => k_is)
    (case xti_InWork => k_is)
    (case xl_InWork => k_is)
    (case xc_InWork => k_is)
    (case xki_InWork => k_is)
    (case ega_InWork => k_is)
    (case egg_InWork => k_is)
    (case ecs_InWork => k_is)
    (case efw_InWork => k_is)
    (case ern_InWork => k_is)
    (case efc_InWork => k_is)
    (case efl_InWork => k_is)
    (case xsa_NotReady => k_is)
    (case xk_NotReady => k_is)
    (case xi_NotReady => k_is)
    (case xti_NotReady => k_is)
    (case xl_NotReady => k_is)
    (case xc_NotReady => k_is)
    (case xki_NotReady => k_is)
    (case ega_NotReady => k_is)
    (case egg_NotReady => k_is)
    (case ecs_NotReady => k_is)
    (case efw_NotReady => k_is)
    (case ern_NotReady => k_is)
    (case efc_NotReady => k_is)
    (case efl_NotReady => k_is)
    (case xsa_TooStrong => k_is)
    (case xk_TooStrong => k_is)
    (case xi_TooStrong => k_is)
    (case xti_TooStrong => k_is)
    (case xl_TooStrong => k_is)
    (case xc_TooStrong => k_is)
    (case xki_TooStrong => k_is)
    (case ega_TooStrong => k_is)
    (case egg_TooStrong => k_is)
    (case ecs_TooStrong => k_is)
    (case efw_TooStrong => k_is)
    (case ern_TooStrong => k_is)
    (case efc_TooStrong => k_is)
    (case efl_TooStrong => k_is)
    (case xsa_Cured => k_is)
    (case xk_Cured => k_is)
    (case xi_Cured => k_is)
    (case xti_Cured => k_is)
    (case xl_Cured => k_is)
    (case xc_Cured => k_is)
    (case xki_Cured => k_is)
    (case ega_Cured => k_is)
    (case egg_Cured => k_is)
    (case ecs_Cured => k_is)
    (case efw_Cured => k_is)
    (case ern_Cured => k_is)
    (case efc_Cured => k_is)
    (case efl_Cured => k_is)
    (case xsa_NotCured => k_is)
    (case xk_NotCured => k_is)
    (case xi_NotCured => k_is)
    (case xti_NotCured => k_is)
    (case xl_NotCured => k_is)
    (case xc_NotCured => k_is)
    (case xki_NotCured => k_is)
    (case ega_NotCured => k_is)
    (case egg_NotCured => k_is)
    (case ecs_NotCured => k_is)
    (case efw_NotCured => k_is)
    (case ern_NotCured => k_is)
    (case efc_NotCured => k_is)
    (case efl_NotCured => k_is)
#print axioms PySem.Challenge.cw_kettlerow_k11_refusals_made_by_hand_holds
