import PyProof.Rows.All
import Wide.All
import OpenK.AllK
import Wide.FinOn
import HandS.ForMost
import HandS.Gcd
import HandS.Wide
import HandS.IsInst
import HandS.Zip
import HandS.More
import HandS.Style
import HandS.Rev
import HandS.MapJoin
import HandS.StrMore
import KE.GoesEnum
import KE.GoesMore
import KE.GoesZip
import HandS.Zip
import HandS.Walk
import HandS.WideBits
import KE.KNest
import HandS.AnyAll
import HandS.EndTab
import HandS.GenOver
import KE.KTypeName
import OpenK.KCls
import HandS.Flt
import HandS.Dict
import HandS.TupAny
import HandS.RevRange
import HandS.Conv
import HandS.Small
import KE.KExcIs
import HandS.ExcInit
import HandS.ExcField
import HandS.ExcIs
import HandS.WordsExc
import HandS.ExcOwn
import HandS.List
import PyProof.Rows.IntBool
import PyProof.CallStr
import PyProof.FitsInt
import PyProof.Rows.ReprOcc
import HandS.TupMul
import KE.DataFind
import PySem.Challenge.RW_kettlerow_k59_great_rounds_and_lists_of
set_option Elab.async false
set_option linter.all false
set_option maxRecDepth 100000
set_option maxHeartbeats 4000000
/-! ### own rules and words, of no law -/
namespace KR
open PySem PySem.Spec PyProof.Rows L2

/-- * of any two ints whose product is told to fit -/
theorem op_mulX {X : Cx} : OpR X (binaryOp .Mult) (rI IntMulOk fun i j => .int (i * j)) := opI fun _ _ _ _ _ _ _ hc q => mul_int q hc
/-- // by any divisor but 0, to some three thousand figures -/
def DivOk (_ j : Int) : Prop := j ≠ 0 ∧ j.natAbs.log2 < 9000
theorem op_fdivX {X : Cx} : OpR X (binaryOp .FloorDiv) (rI DivOk fun i j => .int (i.fdiv j)) := opI fun _ _ _ _ _ _ _ hc q => floordiv_int hc.1 q (.inl (PyProof.noPylong_of_log2 hc.2))
theorem mulL {i j : Int} (h : i.natAbs < 2 ^ 64) : IntMulOk i j := CMul.ok (.inl ⟨by omega, by omega⟩)
theorem mulR {i j : Int} (h : j.natAbs < 2 ^ 64) : IntMulOk i j := CMul.ok (.inr ⟨by omega, by omega⟩)
theorem mulW {i j : Int} {a b : Nat} (ha : i.natAbs < 2 ^ a) (hb : j.natAbs < 2 ^ b) (h0 : 0 < a) (h1 : 0 < b) (h : a + b ≤ 1000000) : IntMulOk i j := (wide_mul ha hb h0 h1 h).ok
theorem divOk {i j : Int} {b : Nat} (h : j ≠ 0) (hb : j.natAbs < 2 ^ b) (h0 : 0 < b) (h9 : b ≤ 9000) : DivOk i j := ⟨h, Nat.lt_of_lt_of_le (PySem.Flt.log2_lt_of h0 hb) h9⟩
theorem add_lt {i j : Int} {a : Nat} (ha : i.natAbs < 2 ^ a) (hb : j.natAbs < 2 ^ a) : (i + j).natAbs < 2 ^ (a + 1) := by
  rw [Nat.pow_succ]
  omega
theorem sub_lt {i j : Int} {a : Nat} (ha : i.natAbs < 2 ^ a) (hb : j.natAbs < 2 ^ a) : (i - j).natAbs < 2 ^ (a + 1) := by
  rw [Nat.pow_succ]
  omega
theorem lt_up {i : Int} {a b : Nat} (ha : i.natAbs < 2 ^ a) (h : a ≤ b) : i.natAbs < 2 ^ b := Nat.lt_of_lt_of_le ha (Nat.pow_le_pow_right (by decide) h)
theorem b40 {n : Nat} (h : n < 10 ^ 40) : n < 2 ^ 200 := Nat.lt_trans h (by decide)
theorem b41 {n : Nat} (h : n ≤ 10 ^ 41) : n < 2 ^ 200 := Nat.lt_of_le_of_lt h (by decide)
theorem bit_lt {c : Prop} [Decidable c] : (if c then (1 : Int) else 0).natAbs < 2 ^ 64 := by split <;> decide
theorem bit_nn {c : Prop} [Decidable c] : (0 : Int) ≤ (if c then (1 : Int) else 0) := by split <;> decide
theorem bit_or {c : Prop} [Decidable c] : (if c then (1 : Int) else 0) = 0 ∨ (if c then (1 : Int) else 0) = 1 := by split <;> simp
theorem small {n : Nat} (h : n ≤ 100000) : n ≤ sizeLine := Nat.le_trans h (by decide)
theorem small' {n : Nat} (h : n < 100000) : n < sizeLine := Nat.lt_of_lt_of_le h (by decide)

/-! the heap but for one object that is written -/
/-- all that was tracked but p is as it was -/
def Fr (p : Addr) (H H' : Hp) : Prop := ∀ b o, b ≠ p → H b = some o → H' b = some o
theorem Fr.refl {p : Addr} {H : Hp} : Fr p H H := fun _ _ _ h => h
theorem Fr.trans {p : Addr} {H H1 H2 : Hp} (a : Fr p H H1) (b : Fr p H1 H2) : Fr p H H2 := fun c o n h => b c o n (a c o n h)
theorem Fr.of {p : Addr} {H H1 : Hp} (a : Same H H1) : Fr p H H1 := fun c o _ h => a c o h
theorem same_new {H : Hp} {p : Addr} {o : HO} (h : H p = none) : Same H (upd H p o) := fun b x e => by
  rw [upd_ne (ne_of_none e h)]
  exact e
theorem Fr.new {p q : Addr} {H H1 : Hp} {o : HO} (a : Fr p H H1) (h : H1 q = none) : Fr p H (upd H1 q o) := a.trans (.of (same_new h))
theorem Fr.put {p : Addr} {H H1 : Hp} {o : HO} (a : Fr p H H1) : Fr p H (upd H1 p o) := fun c x n h => by
  rw [upd_ne n]
  exact a c x n h
theorem Fr.put' {p q : Addr} {H H1 : Hp} {o : HO} (a : Fr p H H1) (h : H q = none) : Fr p H (upd H1 q o) := fun c x n e => by
  rw [upd_ne (ne_of_none e h)]
  exact a c x n e
/-- what is new there was new ahead of it, if the written one stands -/
theorem Fr.free {p q : Addr} {H H1 : Hp} {o : HO} (a : Fr p H H1) (hp : H1 p = some o) (h : H1 q = none) : H q = none := by
  cases e : H q with
  | none => rfl
  | some u =>
    have n : q ≠ p := fun z => by
      rw [z, hp] at h
      cases h
    rw [a q u n e] at h
    cases h

/-! a reading may be asked for more than is wanted; displays whose new heap is a letter -/
def clA (t : TA) : TA := fun σ H Q => ∃ Q0 : List V → Hp → Prop, (∀ xs H1, Q0 xs H1 → Q xs H1) ∧ t σ H Q0
theorem pa_cl {X : Cx} {es : List Expr} {t : TA} (h : PA X es t) : PA X es (clA t) := ⟨fun pos pins s σ H Q I ⟨Q0, m, q⟩ =>
  thn (h.run pos pins s σ H Q0 I q) fun us s1 ⟨xs, H1, I1, r, z⟩ => ⟨xs, H1, I1, r, m _ _ z⟩⟩
def tTupI (t : TA) : TE := fun σ H Q => t σ H fun xs H1 => Nat.ble xs.length 100000 = true ∧ ∀ p H', Same H1 H' → H1 p = none → H' p = some (.tup xs) → Q (.ref p) H'
def tLstI (t : TA) : TE := fun σ H Q => t σ H fun xs H1 => Nat.ble xs.length 100000 = true ∧ ∀ p H', Same H1 H' → H1 p = none → H' p = some (.lst xs) → Q (.ref p) H'
theorem pe_tupI {X : Cx} {es : List Expr} {k : Nat} {pos : Pos} {t : TA} (h : PA X es t) : PE X (.Tuple es k pos) (tTupI t) := ⟨fun pins s σ H Q I q =>
  (pe_tup (pa_cl h)).run pins s σ H Q I ⟨_, fun _ _ ⟨z, w⟩ => ⟨small (Nat.le_of_ble_eq_true z), fun p hp => w p _ (same_new hp) hp upd_same⟩, q⟩⟩
theorem pe_lstI {X : Cx} {es : List Expr} {pos : Pos} {t : TA} (h : PA X es t) : PE X (.List es pos) (tLstI t) := ⟨fun pins s σ H Q I q =>
  (pe_lst (pa_cl h)).run pins s σ H Q I ⟨_, fun _ _ ⟨z, w⟩ => ⟨small (Nat.le_of_ble_eq_true z), fun p hp => w p _ (same_new hp) hp upd_same⟩, q⟩⟩
/-- ways that join behind a statement: R is what they come to -/
def tJ (t : TS) : TS := fun D σ H => ∃ R : L2.St → Hp → Prop, (∀ σ' H', R σ' H' → D.nx σ' H') ∧ t { D with nx := R } σ H
theorem ps_J {X : Cx} {st : Stmt} {t : TS} (h : PS X st t) : PS X st (tJ t) := ⟨fun pins s σ H D I ⟨R, m, q⟩ => thn (h.run pins s σ H { D with nx := R } I q) fun f s1 z =>
  match f, z with
  | .next, ⟨σ', H', J, r⟩ => ⟨σ', H', J, m _ _ r⟩
  | .ret _, z => z
  | .brk, z => z
  | .cont, z => z⟩
theorem ite_bT {b : Bool} {A B : Prop} (h : b = true) (q : A) : if b = true then A else B := by
  rw [if_pos h]
  exact q
theorem ite_bF {b : Bool} {A B : Prop} (h : b = false) (q : B) : if b = true then A else B := by
  rw [if_neg (by rw [h]; exact Bool.false_ne_true)]
  exact q
theorem ite_iT {i j : Int} {A B : Prop} (h : i = j) (q : A) : if decide (V.int i = V.int j) = true then A else B := by
  rw [if_pos (decide_eq_true (congrArg V.int h))]
  exact q
theorem ite_iF {i j : Int} {A B : Prop} (h : i ≠ j) (q : B) : if decide (V.int i = V.int j) = true then A else B := by
  rw [if_neg (by rw [decide_eq_false fun z => h (V.int.inj z)]; exact Bool.false_ne_true)]
  exact q
theorem ite_nT {i j : Int} {A B : Prop} (h : i ≠ j) (q : A) : if (!decide (V.int i = V.int j)) = true then A else B := by
  rw [if_pos (by rw [decide_eq_false fun z => h (V.int.inj z)] <;> rfl)]
  exact q
theorem ite_nF {i j : Int} {A B : Prop} (h : i = j) (q : B) : if (!decide (V.int i = V.int j)) = true then A else B := by
  rw [if_neg (by rw [decide_eq_true (congrArg V.int h)]; exact Bool.false_ne_true)]
  exact q
/-- the law's box of draws: n is more than have been mixed -/
def BoxAt (H : Hp) (p : Addr) (n : Nat) : Prop := ∃ a b c : Int, H p = some (.lst [.int a, .int b, .int c]) ∧ 0 ≤ a ∧ 0 ≤ b ∧ b < 2 ^ 62 ∧ 0 ≤ c ∧ c ≤ (n : Int)
theorem BoxAt.mono {H : Hp} {p : Addr} {n m : Nat} (h : BoxAt H p n) (le : n ≤ m) : BoxAt H p m := by
  obtain ⟨a, b, c, h1, h2, h3, h4, h5, h6⟩ := h
  exact ⟨a, b, c, h1, h2, h3, h4, h5, by omega⟩
theorem BoxAt.same {H H' : Hp} {p : Addr} {n : Nat} (h : BoxAt H p n) (s : Same H H') : BoxAt H' p n := by
  obtain ⟨a, b, c, h1, h2⟩ := h
  exact ⟨a, b, c, s _ _ h1, h2⟩
theorem BoxAt.ne {H : Hp} {p q : Addr} {n : Nat} {xs : List V} (h : BoxAt H p n) (t : H q = some (.tup xs)) : q ≠ p := by
  obtain ⟨a, b, c, h1, _⟩ := h
  exact ne_of t h1 (by intro z; cases z)
theorem BoxAt.some {H : Hp} {p : Addr} {n : Nat} (h : BoxAt H p n) : ∃ o, H p = some o := by
  obtain ⟨a, b, c, h1, _⟩ := h
  exact ⟨_, h1⟩
/-- a tuple stays -/
theorem Fr.tup {p q : Addr} {H H1 : Hp} {n : Nat} {xs : List V} (a : Fr p H H1) (hb : BoxAt H p n) (t : H q = some (.tup xs)) : H1 q = some (.tup xs) := a q _ (hb.ne t) t
/-- a pair of ints -/
def PrAt (H : Hp) (q : Addr) (t b : Int) : Prop := H q = some (.tup [.int t, .int b])
theorem at0 {x : V} {xs : List V} : atI (x :: xs) 0 = some x := atI_nat (j := 0) rfl
theorem at1 {x y : V} {xs : List V} : atI (x :: y :: xs) 1 = some y := atI_nat (j := 1) rfl
theorem at2 {x y z : V} {xs : List V} : atI (x :: y :: z :: xs) 2 = some z := atI_nat (j := 2) rfl

/-! fractions -/
/-- the law's own lowest terms -/
def low (t b : Int) : Int × Int := (t / (Nat.gcd t.natAbs b.natAbs : Nat) * (if b < 0 then -1 else 1), (b.natAbs : Int) / (Nat.gcd t.natAbs b.natAbs : Nat))
structure IsLow (t b : Int) : Prop where
  pos : 0 < b
  cop : Nat.gcd t.natAbs b.natAbs = 1
theorem dvd_mul {a b : Int} (h : a ∣ b) : a * (b / a) = b := Int.mul_ediv_cancel' h
theorem low_facts (t b : Int) (hb : b ≠ 0) : IsLow (low t b).1 (low t b).2 ∧ t * (low t b).2 = (low t b).1 * b := by
  have hg : 0 < Nat.gcd t.natAbs b.natAbs := Nat.gcd_pos_of_pos_right _ (by omega)
  generalize e : Nat.gcd t.natAbs b.natAbs = g at hg
  have d1 : g ∣ t.natAbs := e ▸ Nat.gcd_dvd_left _ _
  have d2 : g ∣ b.natAbs := e ▸ Nat.gcd_dvd_right _ _
  obtain ⟨x, hx⟩ := d1
  obtain ⟨y, hy⟩ := d2
  have hc : Nat.gcd x y = 1 := by
    rw [hx, hy, Nat.gcd_mul_left] at e
    exact Nat.eq_of_mul_eq_mul_left hg (by rw [e, Nat.mul_one])
  have hy0 : 0 < y := by
    rcases Nat.eq_zero_or_pos y with z | z
    · rw [z, Nat.mul_zero] at hy
      omega
    · exact z
  have h2 : (low t b).2 = (y : Int) := by
    show (b.natAbs : Int) / (Nat.gcd t.natAbs b.natAbs : Nat) = (y : Int)
    rw [e, hy, Int.natCast_mul]
    exact Int.mul_ediv_cancel_left _ (by omega)
  have ht : t = (g : Int) * x ∨ t = -((g : Int) * x) := by
    have q : (t.natAbs : Int) = (g : Int) * x := by rw [hx, Int.natCast_mul]
    omega
  have hbb : (b.natAbs : Int) = (g : Int) * y := by rw [hy, Int.natCast_mul]
  have h1 : (low t b).1 = (t / (g : Int)) * (if b < 0 then -1 else 1) := by
    show t / (Nat.gcd t.natAbs b.natAbs : Nat) * (if b < 0 then -1 else 1) = _
    rw [e]
  have h3 : t / (g : Int) = x ∨ t / (g : Int) = -(x : Int) := by
    rcases ht with q | q
    · left
      rw [q]
      exact Int.mul_ediv_cancel_left _ (by omega)
    · right
      rw [q, ← Int.mul_neg]
      exact Int.mul_ediv_cancel_left _ (by omega)
  have h4 : (g : Int) * (t / (g : Int)) = t := dvd_mul (by
    rcases ht with q | q
    · exact ⟨x, q⟩
    · exact ⟨-x, by rw [q, Int.mul_neg]⟩)
  refine ⟨⟨by rw [h2]; omega, ?_⟩, ?_⟩
  · rw [h2, h1]
    have q : ((t / (g : Int)) * (if b < 0 then -1 else 1)).natAbs = x := by
      split <;> rcases h3 with z | z <;> rw [z] <;> omega
    rw [q]
    exact hc
  · rw [h2, h1]
    by_cases c : b < 0
    · rw [if_pos c]
      have q : b = -((g : Int) * y) := by omega
      grind
    · rw [if_neg c]
      have q : b = (g : Int) * y := by omega
      grind
theorem low_pos (t b : Int) (hb : b ≠ 0) : 0 < (low t b).2 := (low_facts t b hb).1.pos
/-- two fractions in lowest terms that are alike across are one -/
theorem isLow_uniq {x y u v : Int} (h : IsLow x y) (k : IsLow u v) (e : x * v = u * y) : x = u ∧ y = v := by
  have h1 := h.pos
  have k1 := k.pos
  have e1 : x.natAbs * v.natAbs = u.natAbs * y.natAbs := by rw [← Int.natAbs_mul, ← Int.natAbs_mul, e]
  have d1 : y.natAbs ∣ v.natAbs := (Nat.Coprime.symm h.cop).dvd_of_dvd_mul_left (by rw [e1]; exact Nat.dvd_mul_left _ _)
  have d2 : v.natAbs ∣ y.natAbs := (Nat.Coprime.symm k.cop).dvd_of_dvd_mul_left (by rw [← e1]; exact Nat.dvd_mul_left _ _)
  have e2 : y.natAbs = v.natAbs := Nat.dvd_antisymm d1 d2
  have e3 : y = v := by omega
  subst e3
  exact ⟨Int.eq_of_mul_eq_mul_right (by omega) e, rfl⟩
theorem low_eq {t b x y : Int} (hb : b ≠ 0) (h : IsLow x y) (e : t * y = x * b) : low t b = (x, y) := by
  obtain ⟨h1, h2⟩ := low_facts t b hb
  have q : (low t b).1 * y = x * (low t b).2 := by
    have z : b * ((low t b).1 * y) = b * (x * (low t b).2) := by grind
    exact Int.eq_of_mul_eq_mul_left hb z
  obtain ⟨a1, a2⟩ := isLow_uniq h1 h q
  exact Prod.ext a1 a2
theorem low_id {t b : Int} (h : IsLow t b) : low t b = (t, b) := low_eq (by have := h.pos; omega) h rfl
theorem low_le (t b : Int) : (low t b).1.natAbs ≤ t.natAbs ∧ (low t b).2.natAbs ≤ b.natAbs := by
  generalize e : Nat.gcd t.natAbs b.natAbs = g
  have h1 : (low t b).1 = (t / (g : Int)) * (if b < 0 then -1 else 1) := by
    show t / (Nat.gcd t.natAbs b.natAbs : Nat) * (if b < 0 then -1 else 1) = _
    rw [e]
  have h2 : (low t b).2 = (b.natAbs : Int) / (g : Int) := by
    show (b.natAbs : Int) / (Nat.gcd t.natAbs b.natAbs : Nat) = _
    rw [e]
  have d1 : (g : Int) ∣ t := e ▸ Int.ofNat_dvd_left.mpr (Nat.gcd_dvd_left _ _)
  constructor
  · rw [h1]
    have q : (t / (g : Int) * (if b < 0 then -1 else 1)).natAbs = (t / (g : Int)).natAbs := by
      split <;> omega
    rw [q]
    obtain ⟨z, rfl⟩ := d1
    by_cases c : (g : Int) = 0
    · rw [c, Int.zero_mul, Int.zero_ediv]
      omega
    · rw [Int.mul_ediv_cancel_left _ c, Int.natAbs_mul]
      exact Nat.le_mul_of_pos_left _ (by omega)
  · rw [h2, ← Int.natCast_ediv, Int.natAbs_natCast]
    exact Nat.div_le_self _ _
theorem low_lt {t b : Int} {n : Nat} (h1 : t.natAbs < 2 ^ n) (h2 : b.natAbs < 2 ^ n) : (low t b).1.natAbs < 2 ^ n ∧ (low t b).2.natAbs < 2 ^ n :=
  ⟨Nat.lt_of_le_of_lt (low_le t b).1 h1, Nat.lt_of_le_of_lt (low_le t b).2 h2⟩
/-- a fraction in lowest terms, of fewer than sixty figures -/
structure FrAt (H : Hp) (x : Addr) (a b : Int) : Prop where
  at_ : H x = some (.tup [.int a, .int b])
  low : IsLow a b
  ta : a.natAbs < 2 ^ 200
  tb : b.natAbs < 2 ^ 200
theorem FrAt.same {H H' : Hp} {x : Addr} {a b : Int} (h : FrAt H x a b) (s : Same H H') : FrAt H' x a b := ⟨s _ _ h.at_, h.low, h.ta, h.tb⟩
theorem FrAt.fr {H H' : Hp} {x p : Addr} {a b : Int} {n : Nat} (h : FrAt H x a b) (B : BoxAt H p n) (f : Fr p H H') : FrAt H' x a b := ⟨f.tup B h.at_, h.low, h.ta, h.tb⟩
/-- a new pair of two numbers' lowest terms -/
def sp_low : Sp := fun vs H Q _ => ∃ t b : Int, vs = [.int t, .int b] ∧ b ≠ 0 ∧ t.natAbs < 2 ^ 2000 ∧ b.natAbs < 2 ^ 2000 ∧ ∀ p H', Same H H' → H p = none → H' p = some (.tup [.int (low t b).1, .int (low t b).2]) → Q (.ref p) H'
/-- two pairs in, low of what f and g say of them out -/
def sp_two (K : PySem.W.Frag) (f g : Int → Int → Int → Int → Int) : Sp := fun vs H Q _ => ∃ (x y : Addr) (a b c d : Int), vs = [.ref x, .ref y] ∧ SqT K H x [.int a, .int b] ∧ SqT K H y [.int c, .int d] ∧ g a b c d ≠ 0 ∧ a.natAbs < 2 ^ 900 ∧ b.natAbs < 2 ^ 900 ∧ c.natAbs < 2 ^ 900 ∧ d.natAbs < 2 ^ 900 ∧
  ∀ p H', Same H H' → H p = none → H' p = some (.tup [.int (low (f a b c d) (g a b c d)).1, .int (low (f a b c d) (g a b c d)).2]) → Q (.ref p) H'
/-- by a divisor turned about -/
theorem fdiv_neg {t g : Int} (h : g ∣ t) : t.fdiv (-g) = t / g * -1 := by
  obtain ⟨z, rfl⟩ := h
  by_cases c : g = 0
  · subst c
    simp
  · rw [Int.mul_ediv_cancel_left _ c, show g * z = (-g) * (-z) by grind, Int.mul_fdiv_cancel_left _ (by omega)]
    omega

/-! data of the law's own making, n deep -/
theorem Same.put {H0 H : Hp} {D : Addr} {o : HO} (s : Same H0 H) (h : H0 D = none) : Same H0 (upd H D o) := fun b u e => by
  rw [upd_ne (ne_of_none e h)]
  exact s b u e
inductive Dt (H : Hp) : Nat → V → PyData → Prop
  | non (n : Nat) : Dt H (n + 1) .non .none
  | bl (n : Nat) (b : Bool) : Dt H (n + 1) (.bl b) (.bool b)
  | int (n : Nat) (i : Int) : Dt H (n + 1) (.int i) (.int i)
  | str (n : Nat) (x : Str) (ok : PyData.canLay0 (.str x) = true) : Dt H (n + 1) (.str x) (.str x)
  | lst {n : Nat} {a : Addr} {xs : List V} {ds : List PyData} : H a = some (.lst xs) → xs.length = ds.length → xs.length ≤ 100000 → (∀ (i : Nat) (x : V) (d : PyData), xs[i]? = some x → ds[i]? = some d → Dt H n x d) → Dt H (n + 1) (.ref a) (.list ds)
  | tup {n : Nat} {a : Addr} {xs : List V} {ds : List PyData} : H a = some (.tup xs) → xs.length = ds.length → xs.length ≤ 100000 → (∀ (i : Nat) (x : V) (d : PyData), xs[i]? = some x → ds[i]? = some d → Dt H n x d) → Dt H (n + 1) (.ref a) (.tuple ds)
theorem Dt.same {H H' : Hp} (s : Same H H') : ∀ {n : Nat} {v : V} {d : PyData}, Dt H n v d → Dt H' n v d := by
  intro n v d h
  induction h with
  | non n => exact .non n
  | bl n b => exact .bl n b
  | int n i => exact .int n i
  | str n x ok => exact .str n x ok
  | lst h1 h2 h3 _ ih => exact .lst (s _ _ h1) h2 h3 ih
  | tup h1 h2 h3 _ ih => exact .tup (s _ _ h1) h2 h3 ih
theorem Dt.up {H : Hp} {n m : Nat} {v : V} {d : PyData} (h : Dt H n v d) : n ≤ m → Dt H m v d := by
  intro le
  induction h generalizing m with
  | non n => obtain ⟨k, rfl⟩ : ∃ k, m = k + 1 := ⟨m - 1, by omega⟩; exact .non k
  | bl n b => obtain ⟨k, rfl⟩ : ∃ k, m = k + 1 := ⟨m - 1, by omega⟩; exact .bl k b
  | int n i => obtain ⟨k, rfl⟩ : ∃ k, m = k + 1 := ⟨m - 1, by omega⟩; exact .int k i
  | str n x ok => obtain ⟨k, rfl⟩ : ∃ k, m = k + 1 := ⟨m - 1, by omega⟩; exact .str k x ok
  | lst h1 h2 h3 _ ih => obtain ⟨k, rfl⟩ : ∃ k, m = k + 1 := ⟨m - 1, by omega⟩; exact .lst h1 h2 h3 fun i x d a b => ih i x d a b (by omega)
  | tup h1 h2 h3 _ ih => obtain ⟨k, rfl⟩ : ∃ k, m = k + 1 := ⟨m - 1, by omega⟩; exact .tup h1 h2 h3 fun i x d a b => ih i x d a b (by omega)
theorem Dt.tup2 {H : Hp} {n : Nat} {a : Addr} {x y : V} {d e : PyData} (h : H a = some (.tup [x, y])) (h1 : Dt H n x d) (h2 : Dt H n y e) : Dt H (n + 1) (.ref a) (.tuple [d, e]) :=
  .tup h rfl (by show 2 ≤ 100000; decide) fun i u v hu hv => match i, hu, hv with
    | 0, hu, hv => by cases hu; cases hv; exact h1
    | 1, hu, hv => by cases hu; cases hv; exact h2
    | i + 2, hu, _ => by simp at hu
theorem Dt.pair {H : Hp} {a : Addr} {t b : Int} (h : H a = some (.tup [.int t, .int b])) : Dt H 2 (.ref a) (.tuple [.int t, .int b]) := .tup2 h (.int 0 t) (.int 0 b)
theorem Dt.lst2 {H : Hp} {n : Nat} {a : Addr} {x y : V} {d e : PyData} (h : H a = some (.lst [x, y])) (h1 : Dt H n x d) (h2 : Dt H n y e) : Dt H (n + 1) (.ref a) (.list [d, e]) :=
  .lst h rfl (by show 2 ≤ 100000; decide) fun i u v hu hv => match i, hu, hv with
    | 0, hu, hv => by cases hu; cases hv; exact h1
    | 1, hu, hv => by cases hu; cases hv; exact h2
    | i + 2, hu, _ => by simp at hu
theorem Dt.lst3 {H : Hp} {n : Nat} {a : Addr} {x y z : V} {d e f : PyData} (h : H a = some (.lst [x, y, z])) (h1 : Dt H n x d) (h2 : Dt H n y e) (h3 : Dt H n z f) : Dt H (n + 1) (.ref a) (.list [d, e, f]) :=
  .lst h rfl (by show 3 ≤ 100000; decide) fun i u v hu hv => match i, hu, hv with
    | 0, hu, hv => by cases hu; cases hv; exact h1
    | 1, hu, hv => by cases hu; cases hv; exact h2
    | 2, hu, hv => by cases hu; cases hv; exact h3
    | i + 3, hu, _ => by simp at hu
/-- a comprehension over pairs: J hands out a new tuple of px i and py i at each of n turns, while St stands -/
theorem lc_pair {J : It} {n : Nat} {St : Hp → Prop} {px py : Nat → V} (hgo : ∀ i H, i < n → St H → J.go i H) (hst : ∀ H, St H → J.stop n H)
    (hy : ∀ i H v H', i < n → St H → J.yld i H v H' → ∃ T, v = .ref T ∧ H T = none ∧ H' = upd H T (.tup [px i, py i]))
    {g : TG} {tt : TT} {te : TE} {vs : List Nat} {σ : L2.St} {H1 : Hp} {D : Addr} {Qd : Hp → Prop} (Pv : Nat → Hp → Prop) (h0 : Pv 0 (upd H1 D (.lst []))) (hq : ∀ i H, i ≤ n → Pv i H → St H)
    (hs : ∀ i T H, i < n → Pv i H → H T = none → g (.ref T) (wipe σ vs) (upd H T (.tup [px i, py i])) fun σ2 H2 => wipe σ2 vs = wipe σ vs ∧ tt σ2 H2 fun b H3 =>
      if b = true then te σ2 H3 fun y H4 => ∃ acc, H4 D = some (.lst acc) ∧ acc.length < sizeLine ∧ Pv (i + 1) (upd H4 D (.lst (acc ++ [y]))) else Pv (i + 1) H3) (hd : ∀ H, Pv n H → Qd H) :
    ∃ W : Nat → Nat → Hp → Prop, (∃ m, W 0 m (upd H1 D (.lst []))) ∧ ∀ i m H, W i m H →
      (J.stop i H ∧ Qd H) ∨ (J.go i H ∧ ∃ Nx : Hp → Prop, (∀ H', Nx H' → ∃ m', m' < m ∧ W (i + 1) m' H') ∧ ∀ x H', J.yld i H x H' → g x (wipe σ vs) H' fun σ2 H2 => wipe σ2 vs = wipe σ vs ∧ tt σ2 H2 fun b H3 =>
        if b = true then te σ2 H3 fun y H4 => ∃ acc, H4 D = some (.lst acc) ∧ acc.length < sizeLine ∧ Nx (upd H4 D (.lst (acc ++ [y]))) else Nx H3) := by
  refine ⟨fun i m H => i + m = n ∧ Pv i H, ⟨n, by omega, h0⟩, fun i m H w => ?_⟩
  obtain ⟨e, p⟩ := w
  have q := hq i H (by omega) p
  rcases Nat.lt_or_ge i n with lt | ge
  · refine Or.inr ⟨hgo i H lt q, Pv (i + 1), fun H' p' => ⟨m - 1, by omega, by omega, p'⟩, fun x H' y => ?_⟩
    obtain ⟨T, rfl, nT, rfl⟩ := hy i H x H' lt q y
    exact hs i T H lt p nT
  · obtain rfl : i = n := by omega
    exact Or.inl ⟨hst H q, hd H p⟩
theorem zipL_go {K : PySem.W.Frag} {a b : Addr} {xs ys : List V} {n : Nat} (h1 : xs.length = n) (h2 : ys.length = n) {i : Nat} {H : Hp} (lt : i < n) (q : SqL K H a xs ∧ SqL K H b ys) : (Itz K a b).go i H :=
  ⟨xs, ys, _, _, q.1, q.2, List.getElem?_eq_getElem (by omega), List.getElem?_eq_getElem (by omega)⟩
theorem zipL_stop {K : PySem.W.Frag} {a b : Addr} {xs ys : List V} {n : Nat} (h1 : xs.length = n) {H : Hp} (q : SqL K H a xs ∧ SqL K H b ys) : (Itz K a b).stop n H := ⟨xs, ys, q.1, q.2, .inl (by omega)⟩
theorem zipL_yld {K : PySem.W.Frag} {a b : Addr} {xs ys : List V} {n : Nat} (h1 : xs.length = n) (h2 : ys.length = n) {i : Nat} {H H' : Hp} {v : V} (lt : i < n) (q : SqL K H a xs ∧ SqL K H b ys) (y : (Itz K a b).yld i H v H') :
    ∃ T, v = .ref T ∧ H T = none ∧ H' = upd H T (.tup [xs.getD i .non, ys.getD i .non]) := by
  obtain ⟨T, x, y, rfl, nT, rfl, f1, f2⟩ := y
  refine ⟨T, rfl, nT, ?_⟩
  rw [List.getD_eq_getElem?_getD, List.getD_eq_getElem?_getD, f1 _ q.1, f2 _ q.2] <;> rfl
theorem zipT_go {K : PySem.W.Frag} {a b : Addr} {xs ys : List V} {n : Nat} (h1 : xs.length = n) (h2 : ys.length = n) {i : Nat} {H : Hp} (lt : i < n) (q : SqT K H a xs ∧ SqT K H b ys) : (RZ.ItzT K a b).go i H :=
  ⟨xs, ys, _, _, q.1, q.2, List.getElem?_eq_getElem (by omega), List.getElem?_eq_getElem (by omega)⟩
theorem zipT_stop {K : PySem.W.Frag} {a b : Addr} {xs ys : List V} {n : Nat} (h1 : xs.length = n) {H : Hp} (q : SqT K H a xs ∧ SqT K H b ys) : (RZ.ItzT K a b).stop n H := ⟨xs, ys, q.1, q.2, .inl (by omega)⟩
theorem zipT_yld {K : PySem.W.Frag} {a b : Addr} {xs ys : List V} {n : Nat} (h1 : xs.length = n) (h2 : ys.length = n) {i : Nat} {H H' : Hp} {v : V} (lt : i < n) (q : SqT K H a xs ∧ SqT K H b ys) (y : (RZ.ItzT K a b).yld i H v H') :
    ∃ T, v = .ref T ∧ H T = none ∧ H' = upd H T (.tup [xs.getD i .non, ys.getD i .non]) := by
  obtain ⟨T, x, y, rfl, nT, rfl, f1, f2⟩ := y
  refine ⟨T, rfl, nT, ?_⟩
  rw [List.getD_eq_getElem?_getD, List.getD_eq_getElem?_getD, f1 _ q.1, f2 _ q.2] <;> rfl
theorem getD_of {xs : List V} {i : Nat} (h : i < xs.length) : xs[i]? = some (xs.getD i .non) := by
  rw [List.getD_eq_getElem?_getD, List.getElem?_eq_getElem h] <;> rfl
theorem yesT {σ : L2.St} {H : Hp} {A B : Hp → Prop} (h : A H) : tYes σ H fun b H3 => if b = true then A H3 else B H3 := iteT (A := A H) (B := B H) h
/-- True so often -/
theorem all_true (n : Nat) : (List.replicate n true).map V.bl = List.replicate n (V.bl true) ∧ (List.replicate n true).all id = true := by
  refine ⟨List.map_replicate, ?_⟩
  induction n with
  | zero => rfl
  | succ n ih => rw [List.replicate_succ, List.all_cons, ih] <;> rfl

/-- a def of the text, where it stands and how it is called -/
structure Def (K : PySem.W.Frag) (mg : Str → Option Value) (name : Str) (st : Stmt) (f : Addr) (fd : FuncData) (ps : List Str) : Prop where
  fn : Fun K name name st f fd
  mg : mg name = some (.ref f)
  b : Binds K fd ps []
/-! rules whose written part is a letter -/
section
variable {X : Cx} {K : PySem.W.Frag}
theorem ixL (h : X.K = K) : IxR X (rIxL K) := h ▸ ix_list
theorem ixT (h : X.K = K) : IxR X (rIxT K) := h ▸ ix_tup
theorem ixQ (h : X.K = K) : IxR X (rIx K) := h ▸ ix_seq
def rLenQ (K : PySem.W.Frag) : List V → Hp → VK → Prop := fun xs H Q => ∃ p ys, xs = [.ref p] ∧ (SqL K H p ys ∨ SqT K H p ys) ∧ Q (.int (ys.length : Nat)) H
theorem lenQ (h : X.K = K) : CallR X (.builtin "len") (rLenQ K) := h ▸ call_len_seq
def rLenA (K : PySem.W.Frag) : List V → Hp → VK → Prop := fun xs H Q => ∃ x n, xs = [x] ∧ LenV K x H n ∧ Q (.int (n : Nat)) H
theorem lenA (h : X.K = K) : CallR X (.builtin "len") (rLenA K) := h ▸ call_len
theorem isiK (h : X.K = K) : CallR X (.builtin "isinstance") (rIsi K) := h ▸ call_isi
theorem isiTK (h : X.K = K) : CallR X (.builtin "isinstance") (rIsiT K) := h ▸ call_isiT
theorem allK (h : X.K = K) (hc : X.calm = true) : CallR X (.builtin "all") (rAll K) := h ▸ cr_all hc
theorem anyK (h : X.K = K) (hc : X.calm = true) : CallR X (.builtin "any") (rAny K) := h ▸ cr_any hc
theorem sumK (h : X.K = K) (hc : X.calm = true) : CallR X (.builtin "sum") (rSum K) := h ▸ cr_sum hc
theorem eqDK (h : X.K = K) (hu : X.A.units + 64 < cLine) : OpR X (compareOp .Eq) (rEqD K) := h ▸ op_eqD hu
theorem neDK (h : X.K = K) (hu : X.A.units + 64 < cLine) : OpR X (compareOp .NotEq) (rNeD K) := h ▸ op_neD hu
theorem inQ (h : X.K = K) : OpR X (compareOp .In) (rIn K false) := h ▸ op_in_seq
theorem notInQ (h : X.K = K) : OpR X (compareOp .NotIn) (rIn K true) := h ▸ op_notIn_seq
theorem pi_listK {tg l : Expr} {tl : TE} (h : X.K = K) (hl : PE X l tl) : PI X tg l (iList K tl) := h ▸ pi_list hl
theorem pi_tupK {tg l : Expr} {tl : TE} (h : X.K = K) (hl : PE X l tl) : PI X tg l (iTup K tl) := h ▸ pi_tup hl
theorem pi_zipK {e e2 : Expr} {ta : TA} {p pos tpos : Pos} {elts : List Expr} {kk : Nat} (h : X.K = K) (hg : Gl X "zip") (hm : X.mg "zip" = none) (ha : PA X [e, e2] ta)
    (hs : starEach [e, e2] X.env = (false, eval e X.env) :: starEach [e2] X.env := by rfl) (hpl : (backTo pos (starEach [e2] X.env)).any (·.1) = false := by rfl) :
    PI X (.Tuple elts kk tpos) (.Call (.Name "zip" p) [e, e2] [] pos) (RZ.iZipA K ta) := h ▸ RZ.pi_zipA hg hm ha hs hpl
theorem pi_enumK {e : Expr} {ta : TA} {p pos tpos : Pos} {elts : List Expr} {kk : Nat} (h : X.K = K) (hg : Gl X "enumerate") (hm : X.mg "enumerate" = none) (ha : PA X [e] ta) (hs : starEach [e] X.env = [(false, eval e X.env)] := by rfl) :
    PI X (.Tuple elts kk tpos) (.Call (.Name "enumerate" p) [e] [] pos) (iEnum K ta) := h ▸ pi_enum hg hm ha hs
theorem pg_tupK {es : List Expr} {k : Nat} {pos : Pos} {t : TGs} {n : Nat} (h : X.K = K) (hc : X.calm = true) (ht : PGs X es t) (hn : (assignEach es X.env).length = n := by rfl) (hst : (assignEach es X.env).findIdx? (·.1) = none := by rfl) :
    PG X (.Tuple es k pos) (gTup K n t) := h ▸ pg_tup hc ht hn hst
/-- a new slice, a new list of what a thing holds -/
def rSlLI (K : PySem.W.Frag) : V → Option Int → Option Int → Hp → VK → Prop := fun x lo hi H Q => ∃ a xs, x = .ref a ∧ SqL K H a xs ∧ ∀ p H', Same H H' → H p = none → H' p = some (.lst (cutV xs lo hi)) → Q (.ref p) H'
theorem slL (h : X.K = K) : SlR X (rSlLI K) := fun pins s σ H x v vl vu lo hi sl Q I rx hs pl pu ⟨a, xs, e, q, k⟩ =>
  sl_list pins s σ H x v vl vu lo hi sl Q I rx hs pl pu ⟨a, xs, e, h ▸ q, fun p hp => k p _ (same_new hp) hp upd_same⟩
def rListI (K : PySem.W.Frag) : List V → Hp → VK → Prop := fun xs H Q => ∃ p ys, xs = [.ref p] ∧ (SqL K H p ys ∨ SqT K H p ys) ∧ ∀ l H', Same H H' → H l = none → H' l = some (.lst ys) → Q (.ref l) H'
theorem listI (h : X.K = K) : CallR X (.type "list") (rListI K) := fun pins s σ H xs us Q I r ⟨p, ys, e, q, k⟩ =>
  call_list_of pins s σ H xs us Q I r ⟨p, ys, e, h ▸ q, fun l hl => k l _ (same_new hl) hl upd_same⟩
end
/-! lists of fractions: addresses, tops, bottoms -/
abbrev Fq := Addr × Int × Int
def refs (l : List Fq) : List V := l.map fun z => V.ref z.1
def dat (z : Fq) : PyData := .tuple [.int z.2.1, .int z.2.2]
structure FqAt (H : Hp) (n : Nat) (z : Fq) : Prop where
  at_ : H z.1 = some (.tup [.int z.2.1, .int z.2.2])
  low : IsLow z.2.1 z.2.2
  ta : z.2.1.natAbs ≤ 10 ^ 41 + n
  tb : z.2.2.natAbs ≤ 10 ^ 41 + n
def FrL (H : Hp) (n : Nat) (l : List Fq) : Prop := ∀ z ∈ l, FqAt H n z
theorem FqAt.fr {H H' : Hp} {p : Addr} {n m k : Nat} {z : Fq} (h : FqAt H n z) (B : BoxAt H p m) (f : Fr p H H') (le : n ≤ k) : FqAt H' k z := ⟨f.tup B h.at_, h.low, by have := h.ta; omega, by have := h.tb; omega⟩
theorem FqAt.same {H H' : Hp} {n : Nat} {z : Fq} (h : FqAt H n z) (s : Same H H') : FqAt H' n z := ⟨s _ _ h.at_, h.low, h.ta, h.tb⟩
theorem FrL.fr {H H' : Hp} {p : Addr} {n m k : Nat} {l : List Fq} (h : FrL H n l) (B : BoxAt H p m) (f : Fr p H H') (le : n ≤ k) : FrL H' k l := fun z hz => (h z hz).fr B f le
theorem FrL.same {H H' : Hp} {n : Nat} {l : List Fq} (h : FrL H n l) (s : Same H H') : FrL H' n l := fun z hz => (h z hz).same s
theorem FqAt.wide {H : Hp} {n : Nat} {z : Fq} (h : FqAt H n z) (le : n ≤ 1000) : z.2.1.natAbs < 2 ^ 200 ∧ z.2.2.natAbs < 2 ^ 200 := by
  have h1 := h.ta
  have h2 := h.tb
  have e : 10 ^ 41 + 1000 < 2 ^ 200 := by decide
  omega
theorem refs_len (l : List Fq) : (refs l).length = l.length := List.length_map _
theorem refs_get {l : List Fq} {i : Nat} {z : Fq} (h : l[i]? = some z) : (refs l)[i]? = some (.ref z.1) := by
  unfold refs
  rw [List.getElem?_map, h] <;> rfl
theorem refs_of {l : List Fq} {i : Nat} {x : V} (h : (refs l)[i]? = some x) : ∃ z, l[i]? = some z ∧ x = .ref z.1 := by
  unfold refs at h
  rw [List.getElem?_map] at h
  cases e : l[i]? with
  | none =>
    rw [e] at h
    cases h
  | some z =>
    rw [e] at h
    exact ⟨z, rfl, (Option.some.inj h).symm⟩
theorem dp_pair {K : PySem.W.Frag} {H : Hp} {a : Addr} {t b : Int} (h : H a = some (.tup [.int t, .int b])) : Dp K H (.ref a) (.tuple [.int t, .int b]) := .tup (SqT.of h) (.cons (.int _) (.cons (.int _) .nil))
theorem FrL.dps {K : PySem.W.Frag} {H : Hp} {n : Nat} : ∀ {l : List Fq}, FrL H n l → DpAll K H (refs l) (l.map dat)
  | [], _ => .nil
  | z :: r, h => .cons (dp_pair (h z List.mem_cons_self).at_) (FrL.dps fun y hy => h y (List.mem_cons_of_mem _ hy))
theorem dats_lay (l : List Fq) : PyData.canLayAll0 (l.map dat) = true ∧ PyData.depthAll (l.map dat) ≤ 1 := by
  induction l with
  | nil => exact ⟨rfl, by decide⟩
  | cons z r ih =>
    refine ⟨?_, ?_⟩
    · show (PyData.canLay0 (dat z) && PyData.canLayAll0 (r.map dat)) = true
      rw [ih.1]
      rfl
    · show max (PyData.depth (dat z)) (PyData.depthAll (r.map dat)) ≤ 1
      have e : PyData.depth (dat z) = 1 := rfl
      omega
theorem dats_shaped (l : List Fq) : SeqAt.shaped (.list (l.map dat)) = true := by
  obtain ⟨h1, h2⟩ := dats_lay l
  show (PyData.canLayAll0 (l.map dat) && decide (PyData.depthAll (l.map dat) + 1 ≤ 64)) = true
  rw [h1, decide_eq_true (by omega)] <;> rfl
theorem dats_nil (l : List Fq) : PyData.eqv (.list (l.map dat)) (.list []) = l.isEmpty := by
  cases l <;> rfl
theorem eqv_pair {a b c d : Int} : PyData.eqv (.tuple [.int a, .int b]) (.tuple [.int c, .int d]) = decide (a = c ∧ b = d) := by
  show ((a == c) && ((b == d) && true)) = decide (a = c ∧ b = d)
  rw [Bool.and_true, Bool.decide_and]
  rfl
/-! data of any make beside the box p -/
inductive Da (p : Addr) (H : Hp) : Nat → V → PyData → Prop
  | non (n : Nat) : Da p H (n + 1) .non .none
  | bl (n : Nat) (b : Bool) : Da p H (n + 1) (.bl b) (.bool b)
  | int (n : Nat) (i : Int) : Da p H (n + 1) (.int i) (.int i)
  | str (n : Nat) (x : Str) : Da p H (n + 1) (.str x) (.str x)
  | lst {n : Nat} {a : Addr} {xs : List V} {ds : List PyData} : a ≠ p → H a = some (.lst xs) → xs.length = ds.length → xs.length ≤ 100000 → (∀ (i : Nat) (x : V) (d : PyData), xs[i]? = some x → ds[i]? = some d → Da p H n x d) → Da p H (n + 1) (.ref a) (.list ds)
  | tup {n : Nat} {a : Addr} {xs : List V} {ds : List PyData} : a ≠ p → H a = some (.tup xs) → xs.length = ds.length → xs.length ≤ 100000 → (∀ (i : Nat) (x : V) (d : PyData), xs[i]? = some x → ds[i]? = some d → Da p H n x d) → Da p H (n + 1) (.ref a) (.tuple ds)
theorem Da.fr {p : Addr} {H H' : Hp} (s : Fr p H H') : ∀ {n : Nat} {v : V} {d : PyData}, Da p H n v d → Da p H' n v d := by
  intro n v d h
  induction h with
  | non n => exact .non n
  | bl n b => exact .bl n b
  | int n i => exact .int n i
  | str n x => exact .str n x
  | lst h0 h1 h2 h3 _ ih => exact .lst h0 (s _ _ h0 h1) h2 h3 ih
  | tup h0 h1 h2 h3 _ ih => exact .tup h0 (s _ _ h0 h1) h2 h3 ih
theorem Da.up {p : Addr} {H : Hp} {n m : Nat} {v : V} {d : PyData} (h : Da p H n v d) : n ≤ m → Da p H m v d := by
  intro le
  induction h generalizing m with
  | non n => obtain ⟨k, rfl⟩ : ∃ k, m = k + 1 := ⟨m - 1, by omega⟩; exact .non k
  | bl n b => obtain ⟨k, rfl⟩ : ∃ k, m = k + 1 := ⟨m - 1, by omega⟩; exact .bl k b
  | int n i => obtain ⟨k, rfl⟩ : ∃ k, m = k + 1 := ⟨m - 1, by omega⟩; exact .int k i
  | str n x => obtain ⟨k, rfl⟩ : ∃ k, m = k + 1 := ⟨m - 1, by omega⟩; exact .str k x
  | lst h0 h1 h2 h3 _ ih => obtain ⟨k, rfl⟩ : ∃ k, m = k + 1 := ⟨m - 1, by omega⟩; exact .lst h0 h1 h2 h3 fun i x d a b => ih i x d a b (by omega)
  | tup h0 h1 h2 h3 _ ih => obtain ⟨k, rfl⟩ : ∃ k, m = k + 1 := ⟨m - 1, by omega⟩; exact .tup h0 h1 h2 h3 fun i x d a b => ih i x d a b (by omega)
/-- each of a row is such data -/
def AllDa (p : Addr) (H : Hp) (n : Nat) (xs : List V) : Prop := ∀ x ∈ xs, ∃ d, Da p H n x d
theorem AllDa.fr {p : Addr} {H H' : Hp} {n : Nat} {xs : List V} (h : AllDa p H n xs) (s : Fr p H H') : AllDa p H' n xs := fun x hx => (h x hx).elim fun d q => ⟨d, q.fr s⟩
theorem AllDa.up {p : Addr} {H : Hp} {n m : Nat} {xs : List V} (h : AllDa p H n xs) (le : n ≤ m) : AllDa p H m xs := fun x hx => (h x hx).elim fun d q => ⟨d, q.up le⟩
theorem AllDa.nil {p : Addr} {H : Hp} {n : Nat} : AllDa p H n [] := fun x hx => absurd hx List.not_mem_nil
theorem AllDa.cons {p : Addr} {H : Hp} {n : Nat} {x : V} {xs : List V} (h : ∃ d, Da p H n x d) (t : AllDa p H n xs) : AllDa p H n (x :: xs) := fun y hy => by
  rcases List.mem_cons.mp hy with e | e
  · rw [e]
    exact h
  · exact t y e
theorem AllDa.append {p : Addr} {H : Hp} {n : Nat} {xs ys : List V} (h : AllDa p H n xs) (t : AllDa p H n ys) : AllDa p H n (xs ++ ys) := fun y hy => by
  rcases List.mem_append.mp hy with e | e
  · exact h y e
  · exact t y e
/-- what the datas of a row are -/
theorem AllDa.pick {p : Addr} {H : Hp} {n : Nat} : ∀ {xs : List V}, AllDa p H n xs → ∃ ds : List PyData, xs.length = ds.length ∧ ∀ (i : Nat) (x : V) (d : PyData), xs[i]? = some x → ds[i]? = some d → Da p H n x d
  | [], _ => ⟨[], rfl, fun i x d h => by simp at h⟩
  | x :: xs, h => by
    obtain ⟨d, q⟩ := h x List.mem_cons_self
    obtain ⟨ds, e, r⟩ := AllDa.pick (xs := xs) fun y hy => h y (List.mem_cons_of_mem _ hy)
    refine ⟨d :: ds, by rw [List.length_cons, List.length_cons, e], fun i y c h1 h2 => ?_⟩
    match i, h1, h2 with
    | 0, h1, h2 => cases h1; cases h2; exact q
    | i + 1, h1, h2 => exact r i y c h1 h2
theorem AllDa.tup {p : Addr} {H : Hp} {n : Nat} {xs : List V} {a : Addr} (h : AllDa p H n xs) (ne : a ≠ p) (e : H a = some (.tup xs)) (z : Nat.ble xs.length 100000 = true := by rfl) : ∃ d, Da p H (n + 1) (.ref a) d := by
  obtain ⟨ds, l, r⟩ := h.pick
  exact ⟨_, .tup ne e l (Nat.le_of_ble_eq_true z) r⟩
theorem AllDa.lst {p : Addr} {H : Hp} {n : Nat} {xs : List V} {a : Addr} (h : AllDa p H n xs) (ne : a ≠ p) (e : H a = some (.lst xs)) (z : Nat.ble xs.length 100000 = true := by rfl) : ∃ d, Da p H (n + 1) (.ref a) d := by
  obtain ⟨ds, l, r⟩ := h.pick
  exact ⟨_, .lst ne e l (Nat.le_of_ble_eq_true z) r⟩
theorem daI {p : Addr} {H : Hp} {n : Nat} (i : Int) : ∃ d, Da p H (n + 1) (.int i) d := ⟨_, .int n i⟩
theorem daB {p : Addr} {H : Hp} {n : Nat} (b : Bool) : ∃ d, Da p H (n + 1) (.bl b) d := ⟨_, .bl n b⟩
theorem daS {p : Addr} {H : Hp} {n : Nat} (x : Str) : ∃ d, Da p H (n + 1) (.str x) d := ⟨_, .str n x⟩
theorem daN {p : Addr} {H : Hp} {n : Nat} : ∃ d, Da p H (n + 1) .non d := ⟨_, .non n⟩
theorem AllDa.one {p : Addr} {H : Hp} {n m : Nat} {x : V} (h : ∃ d, Da p H n x d) (le : n ≤ m) : AllDa p H m [x] := .cons (h.elim fun d q => ⟨d, q.up le⟩) .nil
theorem AllDa.two {p : Addr} {H : Hp} {n : Nat} {x y : V} (h : ∃ d, Da p H n x d) (k : ∃ d, Da p H n y d) : AllDa p H n [x, y] := .cons h (.cons k .nil)
theorem da_fr {p : Addr} {H H' : Hp} {n : Nat} {v : V} (h : ∃ d, Da p H n v d) (s : Fr p H H') : ∃ d, Da p H' n v d := h.elim fun d q => ⟨d, q.fr s⟩
theorem da_up {p : Addr} {H : Hp} {n m : Nat} {v : V} (h : ∃ d, Da p H n v d) (le : n ≤ m) : ∃ d, Da p H m v d := h.elim fun d q => ⟨d, q.up le⟩
theorem BoxAt.new {H : Hp} {p a : Addr} {n : Nat} (h : BoxAt H p n) (e : H a = none) : a ≠ p := by
  obtain ⟨o, ho⟩ := h.some
  exact (ne_of_none ho e).symm
/-- an item at a place that is there -/
theorem at_some {xs : List V} {z : Int} (h0 : 0 ≤ z) (h1 : z < (xs.length : Int)) : ∃ v, atI xs z = some v ∧ v ∈ xs := by
  have g : xs[z.toNat]? = some xs[z.toNat] := List.getElem?_eq_getElem (by omega)
  exact ⟨_, at_of (j := z.toNat) (by omega) g, List.getElem_mem _⟩
/-- which kinds of built-in classes a data is of -/
def isTupD : PyData → Bool
  | .tuple _ => true
  | _ => false
def isIntD : PyData → Bool
  | .int _ => true
  | .bool _ => true
  | _ => false
def isBoolD : PyData → Bool
  | .bool _ => true
  | _ => false
def isListD : PyData → Bool
  | .list _ => true
  | _ => false
def isStrD : PyData → Bool
  | .str _ => true
  | _ => false
structure Kinds (K : PySem.W.Frag) (H : Hp) (v : V) (d : PyData) (t : String) : Prop where
  ty : TyX K H v (.type t)
  tup : kitB t "tuple" = some (isTupD d)
  lst : kitB t "list" = some (isListD d)
  int : kitB t "int" = some (isIntD d)
  bool : kitB t "bool" = some (isBoolD d)
  str : kitB t "str" = some (isStrD d)
theorem Da.kinds {K : PySem.W.Frag} {p : Addr} {H : Hp} {n : Nat} {v : V} {d : PyData} (h : Da p H n v d) : ∃ t, Kinds K H v d t := by
  cases h with
  | non => exact ⟨"NoneType", .base .non, by decide +kernel, by decide +kernel, by decide +kernel, by decide +kernel, by decide +kernel⟩
  | bl _ b => exact ⟨"bool", .base (.bl b), by show _ = some false; decide +kernel, by show _ = some false; decide +kernel, by show _ = some true; decide +kernel, by show _ = some true; decide +kernel, by show _ = some false; decide +kernel⟩
  | int _ i => exact ⟨"int", .base (.int i), by show _ = some false; decide +kernel, by show _ = some false; decide +kernel, by show _ = some true; decide +kernel, by show _ = some false; decide +kernel, by show _ = some false; decide +kernel⟩
  | str _ x => exact ⟨"str", .base (.str x), by show _ = some false; decide +kernel, by show _ = some false; decide +kernel, by show _ = some false; decide +kernel, by show _ = some false; decide +kernel, by show _ = some true; decide +kernel⟩
  | lst _ a1 => exact ⟨"list", .base (.lst a1), by show _ = some false; decide +kernel, by show _ = some true; decide +kernel, by show _ = some false; decide +kernel, by show _ = some false; decide +kernel, by show _ = some false; decide +kernel⟩
  | tup _ a1 => exact ⟨"tuple", .base (.tup a1), by show _ = some true; decide +kernel, by show _ = some false; decide +kernel, by show _ = some false; decide +kernel, by show _ = some false; decide +kernel, by show _ = some false; decide +kernel⟩
/-- repr of a truth -/
theorem cr_reprB {X : Cx} : CallR X (.builtin "repr") (fun xs H Q => ∃ b : Bool, xs = [.bl b] ∧ Q (.str (if b = true then "True" else "False")) H) := by
  intro pins s σ H xs us Q I r h
  obtain ⟨b, rfl, q⟩ := h
  cases r with
  | cons r1 r2 =>
    cases r2
    cases r1
    exact PySem.P.repr_of_bool ⟨.str _, H, I.tok _, ⟨_, rfl⟩, q⟩
/-- xs + ys, a new list -/
def rCatI : R2 := fun x y H Q => ∃ l b xs zs, x = .ref l ∧ y = .ref b ∧ H l = some (.lst xs) ∧ H b = some (.lst zs) ∧ xs.length + zs.length ≤ sizeLine ∧ ∀ p H', Same H H' → H p = none → H' p = some (.lst (xs ++ zs)) → Q (.ref p) H'
theorem op_catI {X : Cx} : OpR X (binaryOp .Add) rCatI := fun pins s σ H x y v u Q I rx ry ⟨l, b, xs, zs, e1, e2, h1, h2, z, k⟩ =>
  op_cat pins s σ H x y v u Q I rx ry ⟨l, b, xs, zs, e1, e2, h1, h2, z, fun p hp => k p _ (same_new hp) hp upd_same⟩
/-- a number; a fraction -/
def isNumD (d : PyData) : Bool := isIntD d && !isBoolD d
def isFracD : PyData → Bool
  | .tuple [.int t, .int b] => decide (0 < b) && decide (Nat.gcd t.natAbs b.natAbs = 1)
  | _ => false
theorem frac_no {d e : PyData} (h : isNumD d = false ∨ isNumD e = false) : isFracD (.tuple [d, e]) = false := by
  cases d <;> cases e <;> first | rfl | (rcases h with h | h <;> cases h)
theorem frac_len {ds : List PyData} (h : ds.length ≠ 2) : isFracD (.tuple ds) = false := by
  match ds, h with
  | [], _ => rfl
  | [d], _ => cases d <;> rfl
  | [_, _], h => exact absurd rfl h
  | d :: e :: _ :: _, _ => cases d <;> cases e <;> rfl
theorem num_int {p : Addr} {H : Hp} {n : Nat} {v : V} {d : PyData} (h : Da p H n v d) (k : isNumD d = true) : ∃ i, d = .int i ∧ v = .int i := by
  cases h with
  | int _ i => exact ⟨i, rfl, rfl⟩
  | non => cases k
  | bl => cases k
  | str => cases k
  | lst => cases k
  | tup => cases k
/-- rows of truths as data -/
theorem dps_bools {K : PySem.W.Frag} {H : Hp} : ∀ bs : List Bool, DpAll K H (bs.map V.bl) (bs.map PyData.bool)
  | [] => .nil
  | b :: r => .cons (.bl b) (dps_bools r)
theorem bools_shaped (bs : List Bool) : SeqAt.shaped (.list (bs.map PyData.bool)) = true := by
  have h : PyData.canLayAll0 (bs.map PyData.bool) = true ∧ PyData.depthAll (bs.map PyData.bool) = 0 := by
    induction bs with
    | nil => exact ⟨rfl, rfl⟩
    | cons b r ih =>
      refine ⟨?_, ?_⟩
      · show (PyData.canLay0 (.bool b) && PyData.canLayAll0 (r.map PyData.bool)) = true
        rw [ih.1] <;> rfl
      · show max (PyData.depth (.bool b)) (PyData.depthAll (r.map PyData.bool)) = 0
        rw [ih.2] <;> rfl
  show (PyData.canLayAll0 (bs.map PyData.bool) && decide (PyData.depthAll (bs.map PyData.bool) + 1 ≤ 64)) = true
  rw [h.1, h.2] <;> rfl
theorem take_one {α : Type} {l : List α} {i : Nat} {x : α} (h : l[i]? = some x) : l.take (i + 1) = l.take i ++ [x] := by
  rw [List.take_add_one, h] <;> rfl
end KR
/-! ### texts -/
namespace KR
open PySem PySem.Spec PyProof.Rows L2
theorem strs_of : ∀ {ys : List Str} {us : List Value}, Vals (ys.map V.str) us → StrsAre us ys
  | [], _, .nil => .nil
  | y :: r, _, .cons h t => by
    obtain ⟨k, rfl⟩ := h
    exact .cons y k (strs_of t)
section
variable {X : Cx} {K : PySem.W.Frag}
/-- sep.join(it), it a list walked from its end -/
theorem join_rev {prog : Program} {w : World} {A : Around} {E : Value → Shared → Prop} {s : Shared} {x : Str} {t : Tok} {it l : Addr} {items : Array Value} {ys : List Str} {Q : Value → Shared → Prop} (hh : A.handled = none)
    (hit : s.heap.IsRevIter it l ((items.size : Int) - 1)) (hl : s.heap.IsList l items) (hne : l ≠ it) (hn : items.size ≤ sizeLine)
    (hP : ∀ acc : Array Value, ItemsOf (fun i v => items[items.size - 1 - i]? = some v) acc items.size → StrsAre acc.toList ys) (hok : (ys.map (·.length)).sum + ys.length * x.length ≤ 16777216)
    (hq : ∀ (h' : Heap) (t' k : Nat), (∀ b o, b ≠ it → s.heap.get? b = some o → h'.get? b = some o) → Q (.str (Txt.join x ys) t') { s with heap := h', toks := k }) :
    wpAny (model prog w) A (call (.builtin "str.join") [.str x t, .ref it]) Q E s := by
  apply wpAny_call
  refine codeAny_call_builtin F.slot_str_join.plain F.entry_str_join (F.slot_str_join.check _ _ _ _ _ _ _ _ (typeIs_str _ _ _) (F.args_str_join_2 _ _) ?_)
  rw [join_tree_other]
  refine wpAny_bind (wpAny_typeOf hit.typeIs ?_)
  show wpAny _ A.in1 ((pyIter (.ref it)).tryCatch _ >>= fun j => collect j >>= fun vs => joinTail x vs) _ _ s
  refine wpAny_bind (wpAny_tryCatch (wpAny_pyIter_revIter hit (wpAny_bind (RT.collect_rev (A := A.in1) hh hit hl hne hn fun h' tk acc hk hacc => ?_))))
  obtain ⟨ps, e1, e2⟩ := strsAre_values (hP acc hacc)
  subst e2
  rw [e1]
  have fits := joinOk_of hok
  unfold JoinOk at fits
  rw [Bool.not_eq_true'] at fits
  have g : Gives (joinTail x (strValues ps)) (joinMade x ps) := by
    have g0 := gives_joinTail x ps fits
    rcases ps with _ | ⟨a, _ | ⟨b, r⟩⟩ <;> exact g0
  exact g prog w A (wants Q E) { s with heap := h', toks := tk } (post_join ps ⟨joinFit_length fits, fun t' k => hq h' t' k hk⟩)
/-- sep.join(reversed(xs)), xs a list of texts -/
def tJoinRev (K : PySem.W.Frag) (to te : TE) : TE := fun σ H Q => to σ H fun x H1 => (∃ a, x = .str a) ∧ te σ H1 fun v H2 => ∃ (a : Str) (q : Addr) (ys : List Str), x = .str a ∧ v = .ref q ∧ SqL K H2 q (ys.map V.str) ∧ (ys.map (·.length)).sum + ys.length * a.length ≤ 16777216 ∧ Q (.str (Txt.join a ys.reverse)) H2
theorem sum_rev (l : List Nat) : l.reverse.sum = l.sum := by
  induction l with
  | nil => rfl
  | cons a r ih =>
    rw [List.reverse_cons, List.sum_append, ih, List.sum_cons, List.sum_cons, List.sum_nil]
    omega
theorem pe_joinRev {o e : Expr} {to te : TE} {apos pos p pos2 : Pos} (hK : X.K = K) (hc : X.calm = true) (hg : Gl X "reversed") (hm : X.mg "reversed" = none) (ho : PE X o to) (he : PE X e te)
    (hs1 : starEach [.Call (.Name "reversed" p) [e] [] pos2] X.env = [(false, eval (.Call (.Name "reversed" p) [e] [] pos2) X.env)] := by rfl) (hs : starEach [e] X.env = (false, eval e X.env) :: starEach [] X.env := by rfl)
    (hbase : attributeBase o "join" X.env (eval o X.env) = eval o X.env := by rfl) (hline : (apos.endLine == pos.line) = true := by rfl) :
    PE X (.Call (.Attribute o "join" apos) [.Call (.Name "reversed" p) [e] [] pos2] [] pos) (tJoinRev K to te) := by
  subst hK
  constructor
  intro pins s σ H Q I want
  refine PySem.Call_method1 hbase hs1 hline (thn (ho.run pins s σ H _ I want) ?_)
  rintro v s1 ⟨x, H1, I1, r1, ⟨a, rfl⟩, q1⟩
  obtain ⟨t, rfl⟩ : ∃ t, v = Value.str a t := r1
  refine ⟨"str", "str.join", F.plainAttrs_str, F.slot_str_join, F.type_str_join, typeIs_str _ _ _, nofun, Calls.callWith_builtin rfl (Calls.evalArgs_plain (Calls.spliced_cons ?_))⟩
  refine Call_ (ld_blt I1 hg hm PyProof.Rows.boot_reversed (PyProof.Rows.callWith_type1 (args_cons (thn (he.run pins s1 σ H1 _ I1 q1) ?_) hs) hs rfl))
  rintro u s2 ⟨y, H2, I2, r2, a', q, ys, ea, rfl, hq, hz, k⟩
  cases ea
  cases r2
  obtain ⟨its, rv, pl, hsz⟩ := I2.list hq
  refine args_nil (call_reversed_list pl.isList (Calls.spliced_nil ?_))
  have old : ∀ b o, s2.heap.get? b = some o → (s2.heap.push (revObj q ((its.toArray.size : Int) - 1))).get? b = some o := fun b o g => Heap.get?_push_of_some _ g
  obtain ⟨oq, hoq, _⟩ := id pl.isList
  have neq : q ≠ s2.heap.objs.size := Nat.ne_of_lt (Heap.lt_size hoq)
  have len : its.toArray.size ≤ sizeLine := by rw [List.size_toArray, ← rv.length]; exact hsz
  refine join_rev (s := { s2 with heap := s2.heap.push (revObj q ((its.toArray.size : Int) - 1)) }) (ys := ys.reverse) (I2.ok.hd hc) ⟨_, Heap.get?_push_size _ rfl, rfl, rfl⟩ (pl.isList.push _) neq len (fun acc hacc => strs_of ?_) ?_ fun h' t' k' keep => ?_
  · rw [List.map_reverse]
    exact RT.vals_rev rv hacc
  · rw [List.map_reverse, sum_rev, List.length_reverse]
    exact hz
  · exact ⟨.str _, H2, I2.kept (t' := k') (fun b o g => keep b o (Nat.ne_of_lt (Heap.lt_size g)) (old b o g)), ⟨t', rfl⟩, k⟩
end
/-! texts as rows of codes -/
abbrev S (l : List Nat) : Str := ⟨l.toArray⟩
theorem tl_S (l : List Nat) : TL.tl (S l) = l := rfl
theorem S_tl (x : Str) : S (TL.tl x) = x := TL.mk_tl x
theorem S_len (l : List Nat) : (S l).length = l.length := by rw [TL.len_tl]
theorem S_app (l m : List Nat) : S l ++ S m = S (l ++ m) := TL.ext_tl (by rw [TL.tl_append])
theorem S_inj {l m : List Nat} (h : S l = S m) : l = m := congrArg TL.tl h
theorem lit_minus : ("-" : Str) = S [45] := by decide +kernel
theorem lit_stroke : ("/" : Str) = S [47] := by decide +kernel
theorem lit_one : ("1" : Str) = S [49] := by decide +kernel
theorem lit_zero : ("0" : Str) = S [48] := by decide +kernel
theorem lit_none : ("" : Str) = S [] := by decide +kernel
theorem lit_empty : Str.empty = S [] := by decide +kernel
theorem lit_digits : ("0123456789" : Str) = S [48, 49, 50, 51, 52, 53, 54, 55, 56, 57] := by decide +kernel
theorem num_S (n : Nat) : Str.ofString (toString ((n : Nat) : Int)) = S (TL.numL n) := TL.ext_tl (TL.tl_num n)
theorem numL_cut (n : Nat) : TL.numL n = (if n / 10 = 0 then [] else TL.numL (n / 10)) ++ [48 + n % 10] := by
  by_cases h : n < 10
  · rw [TL.numL_lt h, if_pos (by omega), show n % 10 = n by omega] <;> rfl
  · rw [TL.numL_step (by omega), if_neg (by omega)]
theorem dig_at {k : Int} (h0 : 0 ≤ k) (h1 : k < 10) : atI ("0123456789" : Str).cps.toList k = some (48 + k.toNat) := by
  rw [lit_digits]
  have ks : k = 0 ∨ k = 1 ∨ k = 2 ∨ k = 3 ∨ k = 4 ∨ k = 5 ∨ k = 6 ∨ k = 7 ∨ k = 8 ∨ k = 9 := by omega
  rcases ks with e | e | e | e | e | e | e | e | e | e <;> subst e <;> rfl
theorem lit_len : ("0123456789" : Str).length ≤ sizeLine := by decide +kernel
/-- text times a number from 0 -/
theorem op_mul_str {X : Cx} : OpR X (binaryOp .Mult) (fun x y H Q => ∃ (a : Str) (n : Nat), x = .str a ∧ y = .int (n : Int) ∧ a.length * n ≤ 100000 ∧ n ≤ 100000 ∧ Q (.str (Txt.mul a n)) H) := by
  intro pins s σ H x y v u Q I rx ry h
  obtain ⟨a, n, rfl, rfl, hz, hn, q⟩ := h
  obtain ⟨t, rfl⟩ := rx
  obtain ⟨t', rfl⟩ := ry
  refine SB.mul ⟨?_, fun h1 h2 => ?_, fun h1 h2 => ?_⟩ fun t2 k => ⟨.str _, H, I.tok _, ⟨_, rfl⟩, q⟩
  · rw [decide_eq_false (by omega), decide_eq_false (by omega)] <;> rfl
  · have n1 : (1 : Int) ≤ (n : Int) := by omega
    intro bad
    have b2 : ((2 ^ 63 - 1 : Int)) / (n : Int) ≥ (2 ^ 63 - 1 : Int) / 100000 := by
      refine Int.le_ediv_of_mul_le (by omega) ?_
      have e : (2 ^ 63 - 1 : Int) / 100000 * (n : Int) ≤ (2 ^ 63 - 1 : Int) / 100000 * 100000 := Int.mul_le_mul_of_nonneg_left (by omega) (by decide)
      exact Int.le_trans e (by decide)
    have a9 : a.length ≤ 100000 := by
      have : a.length * 1 ≤ a.length * n := Nat.mul_le_mul_left _ (by omega)
      omega
    have e3 : (2 ^ 63 - 1 : Int) / 100000 = 92233720368547 := by decide
    omega
  · rw [Int.toNat_natCast]
    exact decide_eq_false (by have := small hz; omega)
theorem mul_zero (a : Str) : Txt.mul a ((0 : Nat) : Int) = S [] := by
  unfold Txt.mul
  rw [if_pos (by decide), lit_empty]
theorem mul_one (a : Str) : Txt.mul a ((1 : Nat) : Int) = a := by
  unfold Txt.mul
  rw [if_neg (by decide), if_pos (by rfl)]
/-- a minus ahead, cut off -/
theorem sub_minus (l : List Nat) : Builtin.Str.subAt (S l) (S [45]) 0 = (l.head? == some 45) := by
  unfold Builtin.Str.subAt
  rcases l with _ | ⟨c, r⟩
  · rfl
  · have e : ((S (c :: r)).cps.extract 0 (0 + (S [45]).length)) = #[c] := by
      apply Array.toList_inj.mp
      rw [Array.toList_extract]
      rfl
    rw [e]
    show (#[c] == #[45]) = (some c == some 45)
    by_cases h : c = 45
    · subst h
      rfl
    · have e2 : (some c == some 45) = false := by
        rw [beq_eq_false_iff_ne]
        exact fun z => h (Option.some.inj z)
      rw [e2, beq_eq_false_iff_ne]
      intro z
      exact h (by have := congrArg (fun a => a[0]?) z; simpa using this)
theorem prefix_minus (l : List Nat) : Txt.removeprefix (S l) (S [45]) = S (if l.head? = some 45 then l.tail else l) := by
  unfold Txt.removeprefix
  rw [sub_minus]
  by_cases h : l.head? = some 45
  · rw [if_pos h, if_pos (by rw [h] <;> rfl)]
    rcases l with _ | ⟨c, r⟩
    · cases h
    · show (if ((S (c :: r)).length - (S [45]).length == (S (c :: r)).length) = true then S (c :: r) else Builtin.Str.strSub (S (c :: r)) (S [45]).length (S (c :: r)).length) = S r
      have e1 : (S (c :: r)).length = r.length + 1 := by rw [S_len] <;> rfl
      have e2 : (S [45]).length = 1 := rfl
      rw [if_neg (by rw [e1, e2, beq_iff_eq]; omega)]
      apply TL.ext_tl
      show ((S (c :: r)).cps.extract (S [45]).length (S (c :: r)).length).toList = r
      rw [Array.toList_extract, e1, e2]
      show List.take (r.length + 1 - 1) (List.drop 1 (c :: r)) = r
      rw [Nat.add_sub_cancel]
      exact List.take_length
  · rw [if_neg h, if_neg (by rw [beq_iff_eq]; exact h)]
    rfl
theorem starts_minus (l : List Nat) : Txt.startswith (S l) (S [45]) = (l.head? == some 45) := by
  unfold Txt.startswith
  rw [sub_minus]
  rcases l with _ | ⟨c, r⟩
  · rfl
  · rw [decide_eq_true (show 0 + (S [45]).length ≤ (S (c :: r)).length by rw [S_len, S_len]; show 0 + 1 ≤ r.length + 1; omega), Bool.true_and]
/-- one to so many figures -/
def figs (l : List Nat) : Bool := !l.isEmpty && l.all fun c => decide (48 ≤ c) && decide (c ≤ 57)
theorem ascii_S (l : List Nat) : Txt.isascii (S l) = l.all (· < 128) := by
  unfold Txt.isascii
  rw [← Array.all_toList]
theorem dig_code : ∀ c, c < 128 → Unicode.isDigit c = (decide (48 ≤ c) && decide (c ≤ 57)) := by decide +kernel
theorem digit_S {l : List Nat} (h : l.all (· < 128) = true) : Txt.isdigit (S l) = figs l := by
  unfold Txt.isdigit figs
  rw [← Array.all_toList, S_len]
  have e1 : decide (l.length > 0) = !l.isEmpty := by
    cases l <;> rfl
  have e2 : l.all Unicode.isDigit = l.all fun c => decide (48 ≤ c) && decide (c ≤ 57) := by
    rw [List.all_eq_true] at h
    clear e1
    induction l with
    | nil => rfl
    | cons c r ih =>
      rw [List.all_cons, List.all_cons, ih fun x hx => h x (List.mem_cons_of_mem _ hx), dig_code c (of_decide_eq_true (h c List.mem_cons_self))]
  rw [e1]
  exact congrArg _ e2
theorem figs_ascii {l : List Nat} (h : figs l = true) : l.all (· < 128) = true := by
  unfold figs at h
  rw [Bool.and_eq_true] at h
  have h3 := List.all_eq_true.mp h.2
  rw [List.all_eq_true]
  intro c hc
  have := h3 c hc
  rw [Bool.and_eq_true] at this
  have h2 := of_decide_eq_true this.2
  exact decide_eq_true (by omega)
theorem figs_num (n : Nat) : figs (TL.numL n) = true := by
  unfold figs
  rw [Bool.and_eq_true]
  refine ⟨?_, ?_⟩
  · have := TL.numL_ne n
    cases e : TL.numL n with
    | nil => exact absurd e this
    | cons _ _ => rfl
  · rw [List.all_eq_true]
    intro c hc
    have := TL.numL_digits n c hc
    rw [decide_eq_true this.1, decide_eq_true this.2] <;> rfl
theorem figs_int {l : List Nat} (h : figs l = true) (z : l.length ≤ 600) : PySem.intText? (S l) = some ((NumText.digitsVal l : Nat) : Int) := by
  unfold figs at h
  rw [Bool.and_eq_true] at h
  have d : NumText.AllDigits l := fun c hc => by
    have := List.all_eq_true.mp h.2 c hc
    rw [Bool.and_eq_true] at this
    exact ⟨of_decide_eq_true this.1, of_decide_eq_true this.2⟩
  have ne : l ≠ [] := by
    intro e
    rw [e] at h
    exact Bool.noConfusion h.1
  exact PySem.intText_digits (x := S l) d ne (by rw [S_len]; omega)
/-- a fraction's text -/
def fracL (t b : Int) : List Nat := (if t < 0 then [45] else []) ++ (TL.numL t.natAbs ++ (if b = 1 then [] else 47 :: TL.numL b.natAbs))
/-- ahead of the first stroke, whether there is one, behind it -/
def cutL : List Nat → List Nat × Bool × List Nat
  | [] => ([], false, [])
  | c :: r => if c = 47 then ([], true, r) else (c :: (cutL r).1, (cutL r).2)
theorem cut_app {a b : List Nat} (h : 47 ∉ a) : cutL (a ++ 47 :: b) = (a, true, b) := by
  induction a with
  | nil => rfl
  | cons c r ih =>
    have hc : c ≠ 47 := fun e => h (by rw [e]; exact List.mem_cons_self)
    have ih' := ih fun m => h (List.mem_cons_of_mem _ m)
    show (if c = 47 then _ else (c :: (cutL (r ++ 47 :: b)).1, (cutL (r ++ 47 :: b)).2)) = _
    rw [if_neg hc, ih']
theorem cut_none {a : List Nat} (h : 47 ∉ a) : cutL a = (a, false, []) := by
  induction a with
  | nil => rfl
  | cons c r ih =>
    have hc : c ≠ 47 := fun e => h (by rw [e]; exact List.mem_cons_self)
    have ih' := ih fun m => h (List.mem_cons_of_mem _ m)
    show (if c = 47 then _ else (c :: (cutL r).1, (cutL r).2)) = _
    rw [if_neg hc, ih']
/-- either no stroke, or the first one -/
theorem cut_ways (l : List Nat) : (47 ∉ l ∧ cutL l = (l, false, [])) ∨ ∃ a b, l = a ++ 47 :: b ∧ 47 ∉ a ∧ cutL l = (a, true, b) := by
  by_cases h : 47 ∈ l
  · obtain ⟨a, b, e, n⟩ := List.eq_append_cons_of_mem h
    exact .inr ⟨a, b, e, n, by rw [e]; exact cut_app n⟩
  · exact .inl ⟨h, cut_none h⟩
end KR
/-! ### defs that ask repr: no repr is under way around them -/
namespace KR
open PySem PySem.Spec PyProof.Rows L2
section
variable {P : Program} {w : World} {K : PySem.W.Frag} {mg : Str → Option Value} {base : Heap}
structure FnG (P : Program) (w : World) (K : PySem.W.Frag) (mg : Str → Option Value) (base : Heap) (k : Nat) (f : Addr) (fd : FuncData) (ps : List Str) (sp : Sp) : Prop where
  many : ∀ vs H Q E, sp vs H Q E → vs.length = ps.length
  does : ∀ (A : Around) (outer : List Env) (s : Shared) (H : Hp) (args : Args) (us : List Value) (vs : List V) (Q : VK) (E : XK), Room k A → A.guards = some [] → Env0 P w K mg base A outer s H → BindsTo s fd args (ps.zip us) → Vals vs us →
    sp vs H Q E → codeAny (model P w) A (.call (.ref f) args) (CR CX0 outer P w H s Q E) s
/-- the end of a def's body is the end of its call -/
theorem body_end {N : List Str} {qual : Str} {sc : Scope} {f : Addr} {cdv : Value} {A : Around} {outer : List Env} {s s' : Shared} {H : Hp} {Q : VK} {E : XK} {fl : Flow}
    (h : SP (cxOf CX0 P w K mg base N qual sc f cdv A outer s H E) [] { nx := fun _ H' => Q .non H', rt := Q } fl s') : CR CX0 outer P w H s Q E (.ok (.ret (match fl with | .ret u => u | _ => .none))) s' ∧ (∀ u, fl = .ret u ∨ fl = .next ∨ fl = .brk ∨ fl = .cont → True) ∧ fl ≠ .brk ∧ fl ≠ .cont := by
  cases fl <;> simp only [SP] at h
  case next => obtain ⟨_, H', J, q⟩ := h; exact ⟨⟨V.non, H', J.os, J.bare, J.base, J.hok, rfl, q⟩, fun _ _ => trivial, nofun, nofun⟩
  case ret u => obtain ⟨v, _, H', J, rv, q⟩ := h; exact ⟨⟨v, H', J.os, J.bare, J.base, J.hok, rv, q⟩, fun _ _ => trivial, nofun, nofun⟩
  case brk => exact absurd h.choose_spec.choose_spec.2 id
  case cont => exact absurd h.choose_spec.choose_spec.2 id
theorem okG {x qual : Str} {st : Stmt} {f : Addr} {fd : FuncData} {N ps : List Str} {k : Nat} {sp : Sp} (F : Fun K x qual st f fd) (S : FnScope N ps (defScope st)) (many : ∀ vs H Q E, sp vs H Q E → vs.length = ps.length)
    (body : ∀ (cdv : Value) (A : Around) (outer : List Env) (s : Shared) (H : Hp) (vs : List V) (Q : VK) (E : XK), Room k (A.deeper (envOfC qual (defScope st) s.heap.objs.size f cdv)) → A.guards = some [] → sp vs H Q E →
      ∃ t, PSs (cxOf CX0 P w K mg base N qual (defScope st) f cdv A outer s H E).nox (defBody st) t ∧ t { nx := fun _ H' => Q .non H', rt := Q } (start N vs) H) : FnG P w K mg base (k + 1) f fd ps sp := by
  obtain ⟨_, _, _, _, _, _, cdv, _, _, rfl, lk, hcd⟩ := F.ex
  refine ⟨many, ?_⟩
  intro A outer s H args us vs Q E hr hg e0 hb rv hsp
  obtain ⟨t, ht, hq⟩ := body cdv A outer s H vs Q E (hr.deeper _) hg hsp
  have inK : K.In s.heap := e0.mod.kin.keeps fun b o q => (e0.bs b o q).1
  apply codeAny_call_function hr.depth (inK _ _ lk) rfl S.co S.gen rfl (PySem.W.codeRec_of inK hcd)
  refine hb _ _ _ _ (wpAny_newFunctionEnv_cells S.kind ?_ ?_)
  · rintro ⟨n, v⟩ hy
    exact (S.par n (List.of_mem_zip hy).1).imp id fun q => ⟨q, PySem.W.cellsFrom_some _ _ _ (Or.inl q)⟩
  · rintro env rfl s1 made
    refine ⟨(e0.mod.nolimit.keeps fun b o q => (e0.bs b o q).1).keeps made.toInCall.keep, codeAny_func ?_⟩
    have I := inv_start (CX := CX0) (E := E) S hr.hd e0 (many _ _ _ _ hsp) rv made
    refine wpAny_mono (ht.nox.run [] s1 (start N vs) H _ I hq) (fun fl s' hs => ?_) fun _ _ z => z
    obtain ⟨r, _, n1, n2⟩ := body_end hs
    cases fl with
    | next => exact r
    | ret u => exact r
    | brk => exact absurd rfl n1
    | cont => exact absurd rfl n2
end
section
variable {X : Cx} {k : Nat} {f : Addr} {fd : FuncData} {ps : List Str} {sp : Sp} {ds : List Value} {dvs : List V} {E : XK} {x : Str} {p pos : Pos} {e : Expr} {es : List Expr} {t : TA}
/-- a call of such a def, where no repr is under way -/
theorem pe_callG (F : FnG X.prog X.w X.K X.mg X.base k f fd ps sp) (room : Room k X.A) (calm : X.A.guards = some []) (glob : Gl X x) (at_ : X.mg x = some (.ref f)) (keep : PySem.W.keepIn X.K (.ref f) = true) (binds : Binds X.K fd ps ds) (dflt : Vals dvs ds) (pass : Passes CX0 X E)
    (args : PA X (e :: es) t) (nd : (x == ("__debug__" : Str)) = false := by decide) (he : starEach (e :: es) X.env = (false, eval e X.env) :: starEach es X.env := by rfl) (hpl : (backTo pos (starEach es X.env)).any (·.1) = false := by rfl) :
    PE X (.Call (.Name x p) (e :: es) [] pos) (tCall sp dvs E t) := by
  constructor
  intro pins s σ H Q I want
  refine wpAny_Call_Name_kw (ld_glob I glob at_ (PySem.W.callWith_K (h₀ := X.base) I.ok.mod.kin keep (thn (args.run pos pins s σ H _ I want) ?_) he hpl) nd)
  rintro us s1 ⟨vs, H1, I1, r, q⟩
  have many := F.many _ _ _ _ q
  have both : Vals (vs ++ dvs) (us ++ ds) := r.append dflt
  refine ⟨I1.kIn, wpAny_call (codeAny_mono (F.does X.A X.stack s1 H1 ⟨us, []⟩ _ _ Q E room calm I1.env0 (binds s1 us I1.kIn (both.length ▸ many)) both q) ?_)⟩
  intro r s' post
  match r, post with
  | .error e, post => exact pass pins σ H1 s1 e s' I1 post
  | .ok (.ret u), post => exact I1.after post
  | .ok .next, post => exact post.elim
  | .ok .brk, post => exact post.elim
  | .ok .cont, post => exact post.elim
end
/-- a def that asks no repr is one -/
theorem FnG.of {P : Program} {w : World} {K : PySem.W.Frag} {mg : Str → Option Value} {base : Heap} {k : Nat} {f : Addr} {fd : FuncData} {ps : List Str} {sp : Sp} (F : FnOk P w K mg base CX0 k f fd ps sp) : FnG P w K mg base k f fd ps sp :=
  ⟨F.len, fun A outer s H args us vs Q E hr _ => F.run A outer s H args us vs Q E hr⟩
/-- repr of data that is no text -/
def rReprD (K : PySem.W.Frag) : List V → Hp → VK → Prop := fun xs H Q => ∃ (a : Addr) (d : PyData), xs = [.ref a] ∧ Dp K H (.ref a) d ∧ d.showable = true ∧ d.hasDict = false ∧ d.depth ≤ 60 ∧ d.shown.length ≤ sizeLine ∧ Q (.str d.shown) H
theorem cr_reprD {X : Cx} (hg : X.A.guards = some []) (hu : X.A.units + 64 < cLine) : CallR X (.builtin "repr") (rReprD X.K) := by
  intro pins s σ H xs us Q I r h
  obtain ⟨a, d, rfl, dp, sh, nd, dd, sz, q⟩ := h
  cases r with
  | cons r1 r2 =>
    cases r2
    cases r1
    obtain ⟨as, rd⟩ := Dp.reads I d _ _ dp rfl
    exact repr_of_reads' rd sh (PyData.noDict_hsm nd) hg (by omega) (fun _ _ e => e) (fun h' u tk hk => ⟨.str _, H, I.kept (fun b o e => hk b o e), ⟨_, rfl⟩, q⟩) sz
theorem cr_reprDK {X : Cx} {K : PySem.W.Frag} (h : X.K = K) (hg : X.A.guards = some []) (hu : X.A.units + 64 < cLine) : CallR X (.builtin "repr") (rReprD K) := h ▸ cr_reprD hg hu
section
variable {P : Program} {w : World} {K : PySem.W.Frag} {mg mb : Str → Option Value} {k : Nat} {fa a : Addr} {fd : FuncData} {x : Str} {sp : Sp} {s₁ : Shared} {vs : List Value} {ns : List Int}
/-- what is tracked when the law is called: the script, unless the module itself made it -/
def scr (K : PySem.W.Frag) (a : Addr) (ob : Obj) (ns : List Int) : Hp := fun b => if b = a ∧ K.lookup a = none then some (.frz ob (.lst (ns.map V.int))) else none
theorem scr_some {ob : Obj} {b : Addr} {u : HO} (h : scr K a ob ns b = some u) : b = a ∧ K.lookup a = none ∧ u = .frz ob (.lst (ns.map V.int)) := by
  unfold scr at h
  split at h
  · rename_i c
    exact ⟨c.1, c.2, (Option.some.inj h).symm⟩
  · cases h
theorem call_law (inK : K.In s₁.heap) (gl : s₁.heap.Ns mainGlobals mg) (bl : s₁.heap.Ns builtinsNs mb) (boot : ∀ x : Str, x ≠ "__name__" → mb x = bootBuiltins x) (lim : s₁.heap.NoLimit) (quiet : s₁.gens = #[])
    (there : s₁.heap.get? a = some { cls := .type "list", data := .seq vs.toArray }) (areInts : IntsAre vs ns) (len : ns.length ≤ sizeLine) (room : Room k callerA)
    (F : ∀ base : Heap, K.In base → base.Ns mainGlobals mg → FnG P w K mg base k fa fd [x] sp) (binds : ∀ (s : Shared) (u : Value), BindsTo s fd ⟨[u], []⟩ [(x, u)])
    (asked : ∀ H : Hp, Only H → SqL K H a (ns.map V.int) → sp [.ref a] H (fun v _ => v = .bl true) fun _ _ _ => False) :
    codeAny (model P w) callerA (.call (.ref fa) ⟨[.ref a], []⟩) (fun r s' => r = .ok (.ret (.bool true)) ∧ OldK s₁.heap s'.heap ∧ s'.os = s₁.os ∧ AllBare s'.gens) s₁ := by
  let ob : Obj := { cls := .type "list", data := .seq vs.toArray }
  let H := scr K a ob ns
  have at_ : ∀ {b u}, H b = some u → b = a ∧ K.lookup a = none ∧ u = .frz ob (.lst (ns.map V.int)) := scr_some
  have no : ∀ b o, s₁.heap.get? b = some o → (∀ q, o ≠ { cls := .type "list", data := .seq q }) → H b = none := fun b o e d => by
    cases c : H b with
    | none => rfl
    | some u =>
      obtain ⟨rfl, _⟩ := at_ c
      exact absurd (Option.some.inj (e.symm.trans there)) (d _)
  have keepNs : ∀ {b : Addr} {m : Str → Option Value}, s₁.heap.Ns b m → (hidT s₁.heap H).Ns b m := fun {b m} ⟨o, es, ep, e, d, r⟩ =>
    ⟨o, es, ep, hidT_get e (no b o e fun q z => by rw [z] at d; cases d), d, r⟩
  have keepK : K.In (hidT s₁.heap H) := fun b o e => hidT_get (inK b o e) (by
    cases c : H b with
    | none => rfl
    | some u =>
      obtain ⟨rfl, n, _⟩ := at_ c
      rw [n] at e
      cases e)
  have rel := vals_ints areInts
  have holds : HOk P w H s₁.heap := fun b u c => by
    obtain ⟨rfl, _, rfl⟩ := at_ c
    exact ⟨there, by rw [List.length_map]; exact len, vs, _, rel, there⟩
  have only : Only H := fun b => by
    cases c : H b with
    | none => exact Or.inl rfl
    | some u => exact Or.inr ⟨ob, _, by rw [(at_ c).2.2]⟩
  have script : SqL K H a (ns.map V.int) := by
    cases c : K.lookup a with
    | none => exact Or.inl (Or.inr ⟨ob, if_pos ⟨rfl, c⟩⟩)
    | some o =>
      have e := Option.some.inj ((inK a o c).symm.trans there)
      subst e
      exact Or.inr ⟨_, vs.toArray, _, c, rfl, rfl, rfl, by rw [List.size_toArray, areInts.length]; exact len, by simpa using rel⟩
  have modul : Mod K mg (hidT s₁.heap H) := ⟨keepK, keepNs gl, ⟨mb, keepNs bl, boot⟩, lim.elim fun mc z => ⟨mc, keepNs z.1, z.2⟩⟩
  have start0 : Env0 P w K mg (hidT s₁.heap H) callerA [] s₁ H := ⟨rfl, modul, fun b o e => of_hidT e, Nat.le_of_eq (hidT_size _ _), trivial, fun b hb => (List.not_mem_nil hb).elim, holds, .of_eq quiet⟩
  refine codeAny_mono ((F _ keepK (keepNs gl)).does callerA [] s₁ H _ [.ref a] [.ref a] _ _ room rfl start0 (binds s₁ (.ref a)) (.cons rfl .nil) (asked H only script)) ?_
  intro r s' post
  match r, post with
  | .error e, post => exact False.elim post
  | .ok .next, post => exact post.elim
  | .ok .brk, post => exact post.elim
  | .ok .cont, post => exact post.elim
  | .ok (.ret u), ⟨v, H', os, bare, un, held, rv, e⟩ =>
    cases (show v = V.bl true from e)
    cases (show u = Value.bool true from rv)
    refine ⟨rfl, OldK.of_keep fun b o g => ?_, os, bare⟩
    cases c : H b with
    | none => exact un.keep b o g c (fun z => (List.not_mem_nil z).elim) (fun z => (List.not_mem_nil z).elim)
    | some u =>
      obtain ⟨rfl, _, rfl⟩ := at_ c
      rw [Option.some.inj (g.symm.trans there)]
      exact (held b _ (un.frzs b ob _ c)).1
end
/-- the goal that is left of a law whose defs ask repr -/
theorem walk_ofG {l : PySem.W.OpenLaw} {n k : Nat} {q : Program} {loose : List Str} {XP : (Str → Option Value) → Heap → Prop} {YP : World → Heap → Prop} {d : DefRec} {K : Params → PySem.W.Frag} {sp : World → Sp} {x : Str}
    (most : l.most = some n) (n9 : n ≤ sizeLine) (nodf : d.params.defaults = []) (room : Room k callerA) (inK : ∀ (w : World) (h : Heap), YP w h → (K w.params).In h)
    (F : ∀ (w : World) (mg : Str → Option Value) (fa : Addr) (h : Heap), (K w.params).In h → h.Ns mainGlobals mg → mg d.name = some (.ref fa) →
      ∃ fd : FuncData, (∀ (s : Shared) (u : Value), BindsTo s fd ⟨[u], []⟩ [(x, u)]) ∧ ∀ base : Heap, (K w.params).In base → base.Ns mainGlobals mg → FnG l.prog w (K w.params) mg base k fa fd [x] (sp w))
    (asked : ∀ (w : World) (H : Hp) (a : Addr) (ns : List Int), ns.length ≤ n → Only H → SqL (K w.params) H a (ns.map V.int) → sp w [.ref a] H (fun v _ => v = .bl true) fun _ _ _ => False) :
    PySem.W.WalkO q loose XP YP l.row.toRowW d [] (fun f vs => PySem.call f vs) :=
  Att.attach_call most nodf fun w s₀ s₁ mg mb fa o pm cd doc a vs ns G Y ho hd hcd hmg hobj hints hlen hg => by
    obtain ⟨fd, b, f⟩ := F w mg fa _ (inK w _ Y) G.T.g hmg
    exact call_law (inK w _ Y) G.T.g G.T.b G.T.builtins G.T.nolimit hg hobj hints (Nat.le_trans hlen n9) room f b fun H only sc => asked w H a ns hlen only sc
end KR
/-! ### all(test for x in ..): the generator expression's own frame, its test read like a def's body -/
namespace KR
open PySem PySem.Spec PyProof.Rows L2
/-- the frame's scope: one name of its own, nothing captured -/
structure GnS (scope : Scope) (x : Str) : Prop where
  kind : scope.kind = .function
  co : scope.isCoroutine = false
  cell : ∀ y ∈ scope.names, y.2 ≠ .cell
  free : ∀ y ∈ scope.names, y.2 ≠ .free
  dot : scope.names.lookup (".0" : Str) = some NameKind.local
  loc : scope.names.lookup x = some .local
/-- the frame's environment, its around -/
abbrev gEnv (X : Cx) (scope : Scope) (C : Addr) (code : Value) : Env := genEnv scope [] C code builtinsNs X.env
abbrev gAr (X : Cx) (ge : Expr) (it : Addr) (env : Env) : Around := X.A.in1.in1.over (.compLoop ge 0 (.ref it) .none env) []
/-- the frame's context: it began at s, H; fp: what is walked -/
abbrev gCx (X : Cx) (ge : Expr) (it : Addr) (x : Str) (s : Shared) (H : Hp) (env : Env) (fp : List Addr) : Cx :=
  { prog := X.prog, w := X.w, K := X.K, mg := X.mg, base := X.base, A := gAr X ge it env, N := [x], s_0 := s, H_0 := H, env := env, outer := X.stack, stack := env :: X.stack, ex := fp, fn := fun _ => false, calm := true, pn := [], xe := fun _ _ => False }
section
variable {X : Cx} {pins : List (Addr × Obj)} {σ : L2.St} {H : Hp} {s : Shared}
theorem inv_gens {g' : Array GenState} (I : Inv X pins σ H s) (hg : AllBare g') : Inv X pins σ H { s with gens := g' } :=
  I.call (h' := s.heap) (g' := g') (t' := s.toks) (d' := s.drawn) (ch := []) Un.refl I.hok hg fun b z => absurd z List.not_mem_nil
theorem bare_set {a : Array GenState} {g : Nat} {x : GenState} (h : AllBare a) (hx : x.bare = true) : AllBare (a.setIfInBounds g x) := fun y hy => by
  rcases Array.mem_or_eq_of_mem_setIfInBounds hy with z | z
  · exact h y z
  · rw [z]
    exact hx
theorem inv_setGen {g : Nat} {x : GenState} (I : Inv X pins σ H s) (hx : x.bare = true) : Inv X pins σ H (s.setGen g x) := inv_gens I (bare_set I.bare hx)
theorem room_gen {k : Nat} (r : Room (k + 1) X.A) {elt : Expr} {cs : List Comprehension} {sc : Scope} {p : Pos} {it : Addr} {env : Env} : Room k (gAr X (.GeneratorExp elt cs sc p) it env) := by
  obtain ⟨h1, h2, h3⟩ := r
  refine ⟨h1, ?_, ?_⟩
  · show X.A.depth + 0 + 1 + 3 * k + 5 < recursionLimit
    omega
  · show X.A.units + 1 + 1 + 0 + 3 + 16 * k + 200 < cLine
    omega
theorem gen_ok {elt : Expr} {cs : List Comprehension} {sc : Scope} {gp : Pos} {it : Addr} {x : Str} {scope : Scope} {code : Value} {fp : List Addr} (I : Inv X pins σ H s) (S : GnS scope x) (hh : X.A.handled = none) (hfp : ∀ b ∈ fp, FpOk X pins H b ∧ b < s.heap.objs.size) :
    (gCx X (.GeneratorExp elt cs sc gp) it x s H (gEnv X scope s.heap.objs.size code) fp).Ok := by
  have kd : ∀ y k, scope.names.lookup y = some k → k ≠ .cell ∧ k ≠ .free := fun y k e => ⟨S.cell _ (PySem.mem_of_lookup e), S.free _ (PySem.mem_of_lookup e)⟩
  exact {
    mod := I.ok.mod, kind := S.kind, glob := I.ok.glob, blt := rfl, above := Nat.le_refl _
    inj := fun y z c e _ => (by cases e)
    has := fun y h => (by
      rcases h with h | h
      · exact absurd rfl (kd y _ h).1
      · exact absurd rfl (kd y _ h).2)
    cab := fun y c z _ => (by cases z)
    hd := fun _ => hh
    frames := (by
      show pushEnvs [gEnv X scope s.heap.objs.size code] (pushEnvs [] X.A.frames) = _
      rw [I.ok.frames] <;> rfl)
    stk := .inr ⟨rfl, rfl⟩
    exf := fun b hb => ⟨Nat.ne_of_lt (hfp b hb).2, fun y c e => (by cases e)⟩
    bs := I.bs, bsz := Nat.le_trans I.ok.bsz I.sz
    noex := fun b o e hb => (by
      obtain ⟨_, _, _, old | old, _⟩ := (hfp b hb).1
      · exact I.ok.noex b o e old
      · have z := Heap.lt_size e
        have z2 := I.ok.bsz
        exact Nat.lt_irrefl b (Nat.lt_of_lt_of_le z (Nat.le_trans z2 old)))
    exfs := fun b hb hf => (by
      obtain ⟨⟨_, n1, n2, _⟩, _⟩ := hfp b hb
      rcases List.mem_cons.mp (I.stkSub b hf) with e | e
      · exact n1 e
      · exact n2 e)
    funs := I.stack, frf := I.stkFree }
/-- the frame as it begins: its space at C, its generator behind it -/
theorem gen_inv {elt : Expr} {cs : List Comprehension} {sc : Scope} {gp : Pos} {it : Addr} {x : Str} {scope : Scope} {code : Value} {fp : List Addr} {h' : Heap} {G : Obj} {g' : Array GenState} {tk : Nat} {m : Str → Option Value} (I : Inv X pins σ H s) (S : GnS scope x) (hh : X.A.handled = none)
    (hfp : ∀ b ∈ fp, FpOk X pins H b ∧ b < s.heap.objs.size) (hn : h'.Ns s.heap.objs.size m) (hsz : h'.objs.size = s.heap.objs.size + 1) (kp : ∀ b o, s.heap.get? b = some o → h'.get? b = some o) (hg : AllBare g') (hG : ∀ v, G.data ≠ .cell v) (hF : G.isFreed = false) :
    Inv (gCx X (.GeneratorExp elt cs sc gp) it x s H (gEnv X scope s.heap.objs.size code) fp) [(h'.objs.size, G)] [none] H { s with heap := h'.push G, gens := g', toks := tk } := by
  have kp2 : ∀ b o, s.heap.get? b = some o → (h'.push G).get? b = some o := fun b o e => Heap.get?_push_of_some _ (kp b o e)
  have gt : s.heap.objs.size ≤ h'.objs.size := by omega
  exact {
    ok := gen_ok I S hh hfp, os := rfl, bare := hg, base := Un.kept kp2
    loc := ⟨m, hn.push _, fun i y v _ e _ => (by
      match i, e with
      | 0, e => cases e
      | j + 1, e => cases e)⟩
    cell := fun y c e => (by cases e)
    free := I.hok.fresh (Nat.le_refl _)
    freeC := fun y c e => (by cases e)
    pin := fun p hp => (by
      obtain rfl := List.mem_singleton.mp (show p ∈ [(h'.objs.size, G)] from hp)
      refine ⟨Heap.get?_push_size _ hF, I.hok.fresh gt, fun z => ?_, fun z => ?_, hG⟩
      · have z2 : h'.objs.size = s.heap.objs.size := z
        omega
      · rcases List.mem_cons.mp (I.stkSub _ z) with e | e
        · have z2 := I.lt
          rw [← e] at z2
          have z3 : h'.objs.size < s.heap.objs.size := z2
          omega
        · exact I.nofs gt e)
    hok := I.hok.kept kp2, len := rfl }
end
/-- what is so between two steps of the generator, i things taken -/
def GSt (Y : Cx) (pn : List (Addr × Obj)) (tn : Nat → Heap → Prop) (fp : List Addr) (W : Nat → Hp → Prop) (i : Nat) (s : Shared) : Prop :=
  ∃ H', Inv Y pn [none] H' s ∧ tn i s.heap ∧ (∀ b ∈ fp, H' b = none) ∧ W i H'
/-- how it ends, how it hands out -/
def gFin (Y : Cx) (pn : List (Addr × Obj)) (Q : VK) (b : Bool) (s : Shared) : Prop := ∃ H', Inv Y pn [none] H' s ∧ Q (.bl b) H'
abbrev gEnd (Y : Cx) (pn : List (Addr × Obj)) (Q : VK) : GenEnd := fun _ _ r s1 => r = .ok .next ∧ gFin Y pn Q true s1
def gPro (Y : Cx) (pn : List (Addr × Obj)) (tn : Nat → Heap → Prop) (fp : List Addr) (W : Nat → Hp → Prop) (Q : VK) : Protocol := fun _ _ v s kap =>
  ∃ b : Bool, v = .bool b ∧ (b = true → ∃ i, GSt Y pn tn fp W i s ∧ ∀ s', GSt Y pn tn fp W i s' → kap (.send .none) s') ∧ (b = false → gFin Y pn Q false s)
/-- one turn's reading -/
def GTurn (J : It) (te : TE) (n : Nat) (W : Nat → Hp → Prop) (Q : VK) : Prop := ∀ i H2, W i H2 →
  (J.stop i H2 ∧ Q (.bl true) H2) ∨ (J.go i H2 ∧ i < n ∧ ∀ x H3, J.yld i H2 x H3 → te [some x] H3 fun u H4 => ∃ b, u = .bl b ∧ if b = true then W (i + 1) H4 else Q (.bl false) H4)
section
variable {X : Cx} {elt iter : Expr} {x : Str} {px gp : Pos} {sc : Scope} {it C : Addr} {s₁ : Shared} {H₁ : Hp} {code : Value} {fp : List Addr} {pn : List (Addr × Obj)} {tn : Nat → Heap → Prop} {J : It} {te : TE} {n : Nat} {W : Nat → Hp → Prop} {Q : VK}
theorem gen_seg {Y : Cx} {env : Env} (hY : Y = gCx X (.GeneratorExp elt [⟨.Name x px, iter, [], 0⟩] sc gp) it x s₁ H₁ env fp) (hco : env.scope.isCoroutine = false) (T : Turn X.prog X.w X.K (.Name x px) J fp it tn)
    (pg : PG Y (.Name x px) (gName 0)) (pe : PE Y elt te) (turn : GTurn J te n W Q) (hpn : ∀ b ∈ fp, ∀ p ∈ pn, p.1 ≠ b) :
    ∀ (m i : Nat) (s s₀ : Shared), n - i = m → GSt Y pn tn fp W i s → Seg (model X.prog X.w) X.A.in1.in1 (gEnd Y pn Q) (gPro Y pn tn fp W Q) m s₀
      (.compLoop (.GeneratorExp elt [⟨.Name x px, iter, [], 0⟩] sc gp) 0 (.ref it) .none env) ((model X.prog X.w).den (.compLoop (.GeneratorExp elt [⟨.Name x px, iter, [], 0⟩] sc gp) 0 (.ref it) .none env)) [] s := by
  have hA : Y.A = X.A.in1.in1.over (.compLoop (.GeneratorExp elt [⟨.Name x px, iter, [], 0⟩] sc gp) 0 (.ref it) .none env) [] := by rw [hY]
  have hP : Y.prog = X.prog := by rw [hY]
  have hW : Y.w = X.w := by rw [hY]
  have hK : Y.K = X.K := by rw [hY]
  have hC : Y.calm = true := by rw [hY]
  have hE : Y.env = env := by rw [hY]
  have hX : Y.ex = fp := by rw [hY]
  have hN : Y.pn = [] := by rw [hY]
  have hxe : Y.xe = fun _ _ => False := by rw [hY]
  have stat : ∀ {σ' : L2.St} {H' : Hp} {s' : Shared}, Inv Y pn σ' H' s' → (∀ b ∈ fp, H' b = none) → ∀ b ∈ fp, FpOk Y pn H' b := fun {σ' H' s'} I' hn b hb => by
    have hb2 : b ∈ Y.ex := by rw [hX]; exact hb
    refine ⟨hn b hb, (I'.ok.exf b hb2).1, I'.ok.exfs b hb2, .inl hb2, fun y c e => (I'.ok.exf b hb2).2 y c e, fun p hp => ?_⟩
    rw [hN] at hp
    exact hpn b hb p hp
  have runG := fun pins s σ H v u Q => pg.run pins s σ H v u Q
  have runE := fun pins s σ H Q => pe.run pins s σ H Q
  rw [hA, hP, hW, hE, hxe] at runG runE
  intro m
  induction m with
  | zero =>
    rintro i s s₀ hm ⟨H, I, st, nf, w⟩
    show Seg _ _ _ _ _ s₀ _ ((compTurn _ 0 (.ref it) .none env).onRaise (leaving env)) [] s
    rw [compTurn_gen, Sem.onRaise_eq_wrap]
    refine seg_bind_wrap (wpAny_standAt ?_)
    rcases turn i H w with ⟨stop, q⟩ | ⟨_, lt, _⟩
    · have td := T.done Y hP hW hK hC i pn s _ H (fun _ _ => False) I (stat I nf) st stop
      rw [hA] at td
      refine seg_bind_wrap (thnF td fun r s2 ⟨e, I2⟩ => ?_)
      rw [e]
      exact seg_end (.ok .next) ⟨rfl, H, I2, q⟩
    · exact absurd lt (by omega)
  | succ m ih =>
    rintro i s s₀ hm ⟨H, I, st, nf, w⟩
    show Seg _ _ _ _ _ s₀ _ ((compTurn _ 0 (.ref it) .none env).onRaise (leaving env)) [] s
    rw [compTurn_gen, Sem.onRaise_eq_wrap]
    refine seg_bind_wrap (wpAny_standAt ?_)
    rcases turn i H w with ⟨stop, q⟩ | ⟨go, lt, step⟩
    · have td := T.done Y hP hW hK hC i pn s _ H (fun _ _ => False) I (stat I nf) st stop
      rw [hA] at td
      refine seg_bind_wrap (thnF td fun r s2 ⟨e, I2⟩ => ?_)
      rw [e]
      exact seg_end (.ok .next) ⟨rfl, H, I2, q⟩
    · have ti := T.item Y hP hW hK hC i pn s _ H (fun _ _ => False) I (stat I nf) st go
      rw [hA] at ti
      refine seg_bind_wrap (thnF ti fun r s2 ⟨u, e, h2⟩ => ?_)
      rw [e]
      refine seg_bind_wrap (thnF h2 fun _ s3 ⟨y, H3, I3, r3, y3, st3, n3⟩ => ?_)
      have I3' := I3.pinned (stat I3 n3) (T.obj _ _ st3)
      refine seg_bind_wrap (thnF (runG _ s3 _ H3 y u _ I3' r3 (show gName 0 y [none] H3 (fun σ' H' => σ' = [some y] ∧ H' = H3) from ⟨rfl, rfl⟩)) fun _ s4 ⟨σ4, H4, I4, e4, e5⟩ => ?_)
      subst e4 e5
      refine seg_bind_wrap (wpAny_tests_nil ?_)
      simp only [if_true]
      have yo : ∀ v, yieldOut env v = yieldValue v := fun v => by
        unfold yieldOut
        rw [hco] <;> rfl
      simp only [yo]
      rw [Sem.bind_eq_wrap', Sem.bind_eq_wrap', Sem.wrap_wrap, Sem.wrap_wrap]
      refine seg_wrap (thnF (runE _ s4 _ _ _ I4 (step y _ y3)) fun v s5 ⟨yv, H5, I5, r5, b, e5, q5⟩ => ?_)
      subst e5
      obtain rfl : v = Value.bool b := r5
      have pin' : ∀ b ∈ fp, ∀ o, s3.heap.get? b = some o → s5.heap.get? b = some o ∧ H5 b = none := fun b hb o e =>
        let z := I5.pin (b, o) (List.mem_append_right _ (List.mem_append_right _ (mem_pinsAt hb e)))
        ⟨z.1, z.2.1⟩
      have I6 : Inv Y pn [none] H5 s5 := I5.unpinned.weak rfl fun j v e => by
        match j, e with
        | 0, e => cases e
        | j + 1, e => cases e
      have done : W (i + 1) H5 → GSt Y pn tn fp W (i + 1) s5 := fun w5 => ⟨H5, I6, T.keep _ _ _ st3 fun b hb o e => (pin' b hb o e).1, fun b hb => (by
        obtain ⟨o, e, _⟩ := T.obj _ _ st3 b hb
        exact (pin' b hb o e).2), w5⟩
      refine seg_at (seg_yield rfl rfl rfl ⟨b, rfl, fun hb => ?_, fun hb => ?_⟩)
      · rw [if_pos hb] at q5
        exact ⟨i + 1, done q5, fun s' hj => seg_again rfl (ih (i + 1) s' s' (by omega) hj)⟩
      · rw [if_neg (by rw [hb]; exact Bool.false_ne_true)] at q5
        exact ⟨H5, I6, q5⟩
/-- the generator at a, its number g: what it does next -/
def GAt (M : Model) (A : Around) (Y : Cx) (pn : List (Addr × Obj)) (tn : Nat → Heap → Prop) (fp : List Addr) (W : Nat → Hp → Prop) (Q : VK) (g m : Nat) (s : Shared) : Prop :=
  ∃ i gs, GSt Y pn tn fp W i s ∧ s.gens[g]? = some gs ∧ ∀ s', GSt Y pn tn fp W i s' → gs.Goes M A (gEnd Y pn Q) (gPro Y pn tn fp W Q) m (.send .none) s'
theorem gst_set {Y : Cx} {i g : Nat} {s : Shared} {y : GenState} (h : GSt Y pn tn fp W i s) (hy : y.bare = true) : GSt Y pn tn fp W i (s.setGen g y) := by
  obtain ⟨H', I, r⟩ := h
  exact ⟨H', inv_setGen I hy, r⟩
theorem fin_set {Y : Cx} {g : Nat} {s : Shared} {y : GenState} {b : Bool} (h : gFin Y pn Q b s) (hy : y.bare = true) : gFin Y pn Q b (s.setGen g y) := by
  obtain ⟨H', I, r⟩ := h
  exact ⟨H', inv_setGen I hy, r⟩
theorem fin_kept {Y : Cx} {s : Shared} {b : Bool} {h' : Heap} (h : gFin Y pn Q b s) (k : ∀ b o, s.heap.get? b = some o → h'.get? b = some o) : gFin Y pn Q b { s with heap := h' } := by
  obtain ⟨H', I, r⟩ := h
  exact ⟨H', I.kept (t' := s.toks) k, r⟩
theorem set_at {s : Shared} {g : Nat} {y : GenState} (h : g + 1 ≤ (s.setGen g y).gens.size) : (s.setGen g y).gens[g]? = some y := by
  have z : g < s.gens.size := by
    have e : (s.setGen g y).gens.size = s.gens.size := Array.size_setIfInBounds
    omega
  show (s.gens.setIfInBounds g y)[g]? = some y
  rw [Array.getElem?_setIfInBounds, if_pos rfl, if_pos z]
theorem all_run {Y : Cx} {a : Addr} {g : Nat} {G : Obj} {R : Result → Shared → Prop} (hp : (a, G) ∈ pn) (hG : ∀ h : Heap, h.get? a = some G → h.IsGen a g) (hh : X.A.handled = none) (hd : X.A.depth + 2 < recursionLimit)
    (hR : ∀ b s', gFin Y pn Q b s' → R (.ok (.ret (.bool b))) s') :
    ∀ (m : Nat) (s : Shared), GAt (model X.prog X.w) X.A.in1.in1 Y pn tn fp W Q g m s → codeAny (model X.prog X.w) X.A (.builtin "all.loop" ⟨[.ref a], []⟩) R s := by
  have turn : ∀ (m : Nat) (s : Shared), GAt (model X.prog X.w) X.A.in1.in1 Y pn tn fp W Q g m s →
      (∀ s', (∃ k, m = k + 1 ∧ GAt (model X.prog X.w) X.A.in1.in1 Y pn tn fp W Q g k s') → codeAny (model X.prog X.w) X.A (.builtin "all.loop" ⟨[.ref a], []⟩) R s') → codeAny (model X.prog X.w) X.A (.builtin "all.loop" ⟨[.ref a], []⟩) R s := by
    rintro m s ⟨i, gs, st, hgs, goes⟩ next
    obtain ⟨H, I, _⟩ := id st
    have gen : s.heap.IsGen a g := hG _ (I.pin (a, G) (List.mem_append_right _ hp)).1
    have hgl : g + 1 ≤ s.gens.size := (Array.getElem?_eq_some_iff.mp hgs).1
    refine codeAny_builtin (F.entry_all_loop) ?_
    rw [Around.under_plainId (F.plain_all_loop) _]
    show wpAny (model X.prog X.w) X.A.in1 (pyNext (.ref a) >>= _) _ _ s
    refine wpAny_bind (GenW.wpAny_gsz (n := g + 1) hgl (wpAny_pyNext_genexpQ (n := m) (P := fun _ _ s1 => gFin Y pn Q true s1) (Y := gPro Y pn tn fp W Q) hh I.nolimit (by show X.A.depth < recursionLimit; omega) gen hgs (goes _ (gst_set st rfl)) (fun v s1 gs' hb hv => ?_) (fun s1 hf h' hk => ?_)))
    · intro hgl2
      obtain ⟨b, rfl, yes, no⟩ := hv
      refine wpAny_bind (wpAny_holding (wpAny_truthy_bool ?_))
      refine wpAny_bind (wpAny_letGo ?_)
      cases b with
      | true =>
        obtain ⟨i2, st2, kap⟩ := yes rfl
        simp only [if_true]
        cases m with
        | zero => exact (kap s1 st2).elim
        | succ k => exact wpAny_pure ⟨plainId_quiet (F.plain_all_loop) _, next _ ⟨k, rfl, i2, gs', gst_set st2 hb, set_at hgl2, fun s' h => kap s' h⟩⟩
      | false =>
        simp only [Bool.false_eq_true, if_false]
        exact wpAny_bind (wpAny_rule (wpAny_pure (hR false _ (fin_set (no rfl) hb))))
    · intro _
      refine wpAny_bind (wpAny_rule (wpAny_pure ?_))
      exact hR true _ (fin_kept (fin_set hf rfl) hk)
  intro m
  induction m with
  | zero => exact fun s h => turn 0 s h fun s' ⟨k, e, _⟩ => (by cases e)
  | succ m ih => exact fun s h => turn (m + 1) s h fun s' ⟨k, e, z⟩ => ih s' (by cases e; exact z)
end
/-- .. in the def: the table of the def's code may have grown ahead of it -/
def tAllG (P : Addr) (wi : TI) (te : TE) : TE := fun σ H Q => wi σ H fun J H1 => GxR.TabG H1 P ∧ ∃ (n : Nat) (W : Nat → Hp → Prop), (∀ H2, GxR.Tabbed P H1 H2 → W 0 H2) ∧ GTurn J te n W Q
theorem gen_den {X : Cx} {elt iter : Expr} {x : Str} {px gp : Pos} {sc : Scope} {it : Addr} {env : Env} {fp : List Addr} {pn : List (Addr × Obj)} {tn : Nat → Heap → Prop} {W : Nat → Hp → Prop} {Q : VK} {Y : Cx} {J : It} {n : Nat} (T : Turn X.prog X.w X.K (.Name x px) J fp it tn)
    (loop : ∀ (s s₀ : Shared), GSt Y pn tn fp W 0 s → Seg (model X.prog X.w) X.A.in1.in1 (gEnd Y pn Q) (gPro Y pn tn fp W Q) n s₀ (.compLoop (.GeneratorExp elt [⟨.Name x px, iter, [], 0⟩] sc gp) 0 (.ref it) .none env)
      ((model X.prog X.w).den (.compLoop (.GeneratorExp elt [⟨.Name x px, iter, [], 0⟩] sc gp) 0 (.ref it) .none env)) [] s) (s s₀ : Shared) (st : GSt Y pn tn fp W 0 s) :
    Seg (model X.prog X.w) X.A.in1.in1 (gEnd Y pn Q) (gPro Y pn tn fp W Q) n s₀ (.compStart (.GeneratorExp elt [⟨.Name x px, iter, [], 0⟩] sc gp) 0 (.ref it) .none env)
      ((model X.prog X.w).den (.compStart (.GeneratorExp elt [⟨.Name x px, iter, [], 0⟩] sc gp) 0 (.ref it) .none env)) [] s := by
  have go := loop s s₀ st
  obtain ⟨H', I, st0, _⟩ := id st
  show Seg _ _ _ _ _ s₀ _ ((compStart _ 0 (.ref it) .none env).onRaise (leaving env)) [] s
  unfold compStart
  rw [Sem.onRaise_eq_wrap]
  show Seg _ _ _ _ _ s₀ _ ((ask >>= _).wrap _ _ _ _) [] s
  refine seg_bind_wrap (wpAny_askSetting ?_)
  split
  · exact seg_again rfl go
  · refine seg_bind_wrap (wpAny_rule ?_)
    show Seg _ _ _ _ _ s₀ _ ((standAt iter.pos >>= _).wrap _ _ _ _) [] s
    refine seg_bind_wrap (wpAny_standAt (seg_bind_wrap ?_))
    exact T.self _ 0 s _ _ st0 (seg_again rfl go)
theorem no_clo {cells : List (Str × Addr)} : ∀ (l : List (Str × NameKind)), (∀ y ∈ l, y.2 ≠ .free) → cloFrom cells l [] = []
  | [], _ => rfl
  | (n, k) :: r, h => by
    have z := no_clo (cells := cells) r fun y hy => h y (List.mem_cons_of_mem _ hy)
    have hk : k ≠ .free := h (n, k) List.mem_cons_self
    unfold cloFrom
    cases k <;> first | exact z | exact absurd rfl hk
theorem pe_allG {X : Cx} {c P : Addr} {elt iter : Expr} {x : Str} {px p pos gp : Pos} {scope : Scope} {wi : TI} {te : TE} {k : Nat}
    (hr : Room k X.A) (hg : Gl X "all") (hm : X.mg "all" = none) (hb : bootBuiltins "all" = some (.builtin "all")) (TB : GxR.TabB X.base X.mg c P) (hcode : X.env.code = .ref c) (S : GnS scope x) (hi : PI X (.Name x px) iter wi)
    (hel : ∀ (it C : Addr) (s : Shared) (H : Hp) (code : Value) (fp : List Addr), PE (gCx X (.GeneratorExp elt [⟨.Name x px, iter, [], 0⟩] scope gp) it x s H (gEnv X scope C code) fp) elt te)
    (hs : ∀ v, genFold iter X.env v = pure v)
    (he : starEach [.GeneratorExp elt [⟨.Name x px, iter, [], 0⟩] scope gp] X.env = (false, eval (.GeneratorExp elt [⟨.Name x px, iter, [], 0⟩] scope gp) X.env) :: starEach [] X.env := by rfl) :
    PE X (.Call (.Name "all" p) [.GeneratorExp elt [⟨.Name x px, iter, [], 0⟩] scope gp] [] pos) (tAllG P wi te) := by
  have dep := hr.dp
  refine ⟨fun pins s σ H Q I h => ?_⟩
  refine wpAny_Call_Name_kw (ld_blt I hg hm hb ?_)
  refine PyProof.Rows.callWith_builtin1 ?_ he (by rfl)
  rw [he]
  refine Calls.spliced_cons (wpAny_GeneratorExp_make (cl := []) S.co ?_ S.cell S.dot S.kind (by omega) ?_ hs)
  · rw [closure_ok (fun y hy e => absurd e (S.free y hy)), no_clo _ S.free]
  refine thn (hi.run pins s σ H _ I h) fun xv s1 hx => thn hx fun itv s2 ⟨it, fp, tn, J, H2, e, I2, T, st2, f2, TG, n, W, w0, turn⟩ => ⟨I2.nolimit, ?_⟩
  subst e
  obtain ⟨ps, hP, ht⟩ := TG
  have hPs : s2.heap.get? P = some { cls := .none, data := .fields ps } := I2.hok P _ hP
  have cd : PySem.W.CodeHd s2.heap c P := TB.code.keeps I2.bk
  have fpP : ∀ b ∈ fp, b ≠ P := fun b hb z => by
    have q := (f2 b hb).1
    rw [z, hP] at q
    cases q
  have cont : ∀ (code : Value) (h3 : Heap) (tk : Nat) (ps' : Array Value), Heap.ExtBut P s2.heap h3 → s2.heap.objs.size ≤ h3.objs.size → h3.get? P = some { cls := .none, data := .fields ps' } → (∃ more, ps' = ps ++ more) → TriplesOk ps'.toList →
      wpAny (model X.prog X.w) X.A (builtinsFor X.env.globals X.env.builtins) (fun bi s₄ => ∀ h', h'.Ns s₄.heap.objs.size (fun y => if y = ".0" then some (.ref it) else none) →
        Heap.SameBut s₄.heap.objs.size (s₄.heap.push { cls := .type "frame", data := .dict #[] }) h' → wpAny (model X.prog X.w) X.A (spliced (backTo pos (starEach [] X.env))) (fun us s' => wpAny (model X.prog X.w) X.A (call (.builtin "all") (.ref h'.objs.size :: us)) (EP X pins σ Q) X.xe s') X.xe
          { s₄ with gens := s₄.gens.push (.fresh (.compStart (.GeneratorExp elt [⟨.Name x px, iter, [], 0⟩] scope gp) 0 (.ref it) .none (genEnv scope [] s₄.heap.objs.size code bi X.env))), toks := s₄.toks + 1 + 1 + 1,
                    heap := h'.push { cls := .type "generator", data := .fields #[.int s₄.gens.size 0, .str "<genexpr>" (s₄.toks + 1), .str (X.env.qual ++ "<genexpr>") (s₄.toks + 1 + 1)] } }) X.xe { s2 with heap := h3, toks := tk } := by
    intro code h3 tk ps' hx hsz hP3 hmore ht3
    obtain ⟨bm, ob, e1, e2, e3, e4, e5, e6, e7, e8⟩ := TB.bm
    have keep3 : ∀ b u, b ≠ P → s2.heap.get? b = some u → h3.get? b = some u := fun b u hb e => hx b u hb e
    refine wpAny_builtinsFor (m := X.mg) (by rw [I2.ok.glob]; exact (I2.mod.glob.keeps I2.bk).extBut hx TB.gP) e1 e2 (keep3 _ _ e4 (I2.bk _ _ e5)) e6 e7 e8 ?_
    obtain ⟨more, em⟩ := hmore
    have I4 := GxR.inv_tab (more := more) (h' := h3) (g' := s2.gens) (d' := s2.drawn) (t' := tk) I2 hP (fun b u hb e => keep3 b u hb e) (by rw [← em]; exact hP3) I2.bare
    generalize hs4 : ({ s2 with heap := h3, toks := tk } : Shared) = s4 at I4 ⊢
    have h4 : s4.heap = h3 := by rw [← hs4]
    have tabbed : GxR.Tabbed P H2 (upd H2 P (.tbl (ps ++ more))) := ⟨⟨_, upd_same, by rw [← em]; exact ht3⟩, fun b hb => upd_ne hb⟩
    generalize upd H2 P (.tbl (ps ++ more)) = H4 at I4 tabbed
    have lt4 : ∀ b ∈ fp, b < s4.heap.objs.size := fun b hb => by
      obtain ⟨o, e, _⟩ := T.obj _ _ st2 b hb
      have z := Heap.lt_size e
      rw [h4]
      exact Nat.lt_of_lt_of_le z hsz
    have f4 : ∀ b ∈ fp, FpOk X pins H4 b ∧ b < s4.heap.objs.size := fun b hb => ⟨⟨(tabbed.2 b (fpP b hb)).trans (f2 b hb).1, (f2 b hb).2⟩, lt4 b hb⟩
    intro h' hn' hs'
    have sz' : h'.objs.size = s4.heap.objs.size + 1 := by rw [hs'.1, Heap.size_push]
    have kp : ∀ b o, s4.heap.get? b = some o → h'.get? b = some o := fun b o e => hs'.extBut b o (Nat.ne_of_lt (Heap.lt_size e)) (Heap.get?_push_of_some _ e)
    generalize hG : ({ cls := .type "generator", data := .fields #[.int s4.gens.size 0, .str "<genexpr>" (s4.toks + 1), .str (X.env.qual ++ "<genexpr>") (s4.toks + 1 + 1)] } : Obj) = G
    have IG := gen_inv (elt := elt) (cs := [⟨.Name x px, iter, [], 0⟩]) (sc := scope) (gp := gp) (it := it) (code := code) (G := G) (g' := s4.gens.push (.fresh (.compStart (.GeneratorExp elt [⟨.Name x px, iter, [], 0⟩] scope gp) 0 (.ref it) .none (gEnv X scope s4.heap.objs.size code)))) (tk := s4.toks + 1 + 1 + 1)
      I4 S hr.hd f4 hn' sz' kp (I4.bare.push rfl) (fun v z => by rw [← hG] at z; cases z) (by rw [← hG] <;> rfl)
    have st5 : tn 0 (h'.push G) := T.keep _ _ _ st2 fun b hb o e => Heap.get?_push_of_some _ (kp b o (by rw [h4]; exact keep3 b o (fpP b hb) e))
    refine Calls.spliced_nil ?_
    have isG : ∀ hp : Heap, hp.get? h'.objs.size = some G → hp.IsGen h'.objs.size s4.gens.size := fun hp e => ⟨G, _, _, e, by rw [← hG], by rw [← hG], by rw [← hG]⟩
    have hpn : ∀ b ∈ fp, ∀ p ∈ [(h'.objs.size, G)], p.1 ≠ b := fun b hb p hp z => by
      obtain rfl := List.mem_singleton.mp hp
      have q : b < s4.heap.objs.size := lt4 b hb
      have z2 : h'.objs.size = b := z
      rw [← z2, sz'] at q
      exact Nat.lt_irrefl _ (Nat.lt_of_succ_lt q)
    have loop := gen_seg (elt := elt) (iter := iter) (px := px) (gp := gp) (sc := scope) (Q := Q) (tn := tn) (n := n) rfl S.co T (pg_name (X := gCx X (.GeneratorExp elt [⟨.Name x px, iter, [], 0⟩] scope gp) it x s4 H4 (gEnv X scope s4.heap.objs.size code) fp) (List.nodup_cons.mpr ⟨List.not_mem_nil, List.nodup_nil⟩) rfl (.inl S.loc) (.inr S.loc))
      (hel it s4.heap.objs.size s4 H4 code fp) turn hpn
    refine call_function_tree (F.kind_all) (F.plain_all) (F.entry_all) (F.args_all1 _) ?_
    unfold Builtin.«all»
    refine wpAny_bind (m := oneArg "all" _) (wpAny_pure ?_)
    refine wpAny_bind (wpAny_pyIter_gen (isG _ (IG.pin (h'.objs.size, G) (List.mem_singleton.mpr rfl)).1) ?_)
    refine wpAny_pure ⟨plainId_quiet (F.plain_all_loop) _, all_run (pn := [(h'.objs.size, G)]) (tn := tn) (fp := fp) (W := W) (Q := Q) (List.mem_singleton.mpr rfl) isG hr.hd (by omega) (fun b s' hf => ?_) n _ ⟨0, _, ⟨H4, IG, st5, fun b hb => (f4 b hb).1.1, w0 H4 tabbed⟩, Array.getElem?_push_size .., fun s' hst => ⟨rfl, gen_den T (fun s s₀ q => loop n 0 s s₀ (Nat.sub_zero n) q) s' s' hst⟩⟩⟩
    obtain ⟨H', IY, q⟩ := hf
    have J := I4.call' (ch := fp) IY.os IY.base IY.hok IY.bare fun b hb => ⟨(f4 b hb).1.2.2.2.1, (f4 b hb).1.2.1, (f4 b hb).1.2.2.2.2.1, (f4 b hb).1.2.2.2.2.2⟩
    exact ⟨.bl b, H', J, rfl, q⟩
  cases hf : codeAmong gp ps.toList with
  | none =>
    refine wpAny_genexprCodeX hcode (cd.code hPs ht) (cd.tab hPs) hf fun c' h' tk hx hge hlt hco' _ htab' _ => ?_
    obtain ⟨o1, vs, f1, tf, fl, tg, inF, tx, tt, op, _, _, _, _, _, _, _, _, _, htr, _⟩ := hco'
    exact cont _ h' tk _ hx (Nat.le_trans hge (Nat.le_of_lt hlt)) htab'.2 ⟨_, rfl⟩ htr
  | some cv =>
    refine wpAny_genexprCode_hit hcode (cd.code hPs ht) hf ?_
    exact cont cv s2.heap s2.toks ps (Heap.ExtBut.refl _ _) (Nat.le_refl _) hPs ⟨#[], by simp⟩ ht
end KR
/-! ### defs whose code has a table (a generator expression stands in them): what is kept around their calls, and the law's end with such tables -/
namespace KR
open PySem PySem.Spec PyProof.Rows L2
/-- what was tracked is as it was; tables may have grown -/
structure Sm (H H' : Hp) : Prop where
  keep : ∀ b o, H b = some o → (∀ q, o ≠ .tbl q) → H' b = some o
  tab : ∀ b, GxR.TabG H b → GxR.TabG H' b
theorem tab_at {H : Hp} {b : Addr} (h : GxR.TabG H b) : ∃ q, H b = some (.tbl q) := h.elim fun q z => ⟨q, z.1⟩
theorem Sm.refl {H : Hp} : Sm H H := ⟨fun _ _ h _ => h, fun _ h => h⟩
theorem Sm.trans {H H1 H2 : Hp} (a : Sm H H1) (b : Sm H1 H2) : Sm H H2 := ⟨fun c o h n => b.keep c o (a.keep c o h n) n, fun c h => b.tab c (a.tab c h)⟩
theorem Sm.of {H H1 : Hp} (a : Same H H1) : Sm H H1 := ⟨fun c o h _ => a c o h, fun c ⟨q, e, t⟩ => ⟨q, a _ _ e, t⟩⟩
theorem Sm.tabbed {H H1 : Hp} {P : Addr} (a : GxR.Tabbed P H H1) (h : GxR.TabG H P) : Sm H H1 := by
  obtain ⟨q, e, _⟩ := h
  refine ⟨fun c o h n => ?_, fun c ⟨q2, e2, t2⟩ => ?_⟩
  · have ne : c ≠ P := fun z => by
      rw [z, e] at h
      exact n q (Option.some.inj h).symm
    rw [a.2 c ne]
    exact h
  · by_cases z : c = P
    · rw [z]
      exact a.1
    · exact ⟨q2, (a.2 c z).trans e2, t2⟩
theorem Sm.tup {K : PySem.W.Frag} {H H' : Hp} {a : Addr} {xs : List V} (e : Sm H H') (h : SqT K H a xs) : SqT K H' a xs := by
  rcases h with (h | ⟨o, h⟩) | h
  · exact .inl (.inl (e.keep _ _ h nofun))
  · exact .inl (.inr ⟨o, e.keep _ _ h nofun⟩)
  · exact .inr h
theorem Sm.seq {K : PySem.W.Frag} {H H' : Hp} {a : Addr} {xs : List V} (e : Sm H H') (h : SqL K H a xs) : SqL K H' a xs := by
  rcases h with (h | ⟨o, h⟩) | h
  · exact .inl (.inl (e.keep _ _ h nofun))
  · exact .inl (.inr ⟨o, e.keep _ _ h nofun⟩)
  · exact .inr h
theorem Sm.lst {H H' : Hp} {a : Addr} {xs : List V} (e : Sm H H') (h : H a = some (.lst xs)) : H' a = some (.lst xs) := e.keep _ _ h nofun
theorem BoxAt.sm {H H' : Hp} {p : Addr} {n : Nat} (h : BoxAt H p n) (s : Sm H H') : BoxAt H' p n := by
  obtain ⟨a, b, c, h1, h2⟩ := h
  exact ⟨a, b, c, s.lst h1, h2⟩
/-- .. but the box p -/
structure Fs (p : Addr) (H H' : Hp) : Prop where
  keep : ∀ b o, b ≠ p → H b = some o → (∀ q, o ≠ .tbl q) → H' b = some o
  tab : ∀ b, b ≠ p → GxR.TabG H b → GxR.TabG H' b
theorem Fs.refl {p : Addr} {H : Hp} : Fs p H H := ⟨fun _ _ _ h _ => h, fun _ _ h => h⟩
theorem Fs.trans {p : Addr} {H H1 H2 : Hp} (a : Fs p H H1) (b : Fs p H1 H2) : Fs p H H2 := ⟨fun c o e h n => b.keep c o e (a.keep c o e h n) n, fun c e h => b.tab c e (a.tab c e h)⟩
theorem Fs.of {p : Addr} {H H1 : Hp} (a : Fr p H H1) : Fs p H H1 := ⟨fun c o e h _ => a c o e h, fun c e ⟨q, g, t⟩ => ⟨q, a _ _ e g, t⟩⟩
theorem Fs.sm {p : Addr} {H H1 : Hp} (a : Sm H H1) : Fs p H H1 := ⟨fun c o _ h n => a.keep c o h n, fun c _ h => a.tab c h⟩
/-- so many tables are there -/
def Tbs (Ps : List Addr) (H : Hp) : Prop := ∀ P ∈ Ps, GxR.TabG H P
theorem Tbs.sm {Ps : List Addr} {H H' : Hp} (h : Tbs Ps H) (s : Sm H H') : Tbs Ps H' := fun P hP => s.tab P (h P hP)
theorem Tbs.fs {Ps : List Addr} {p : Addr} {H H' : Hp} {xs : List V} (h : Tbs Ps H) (hp : H p = some (.lst xs)) (s : Fs p H H') : Tbs Ps H' := fun P hP => s.tab P (fun z => by
  obtain ⟨q, e⟩ := tab_at (h P hP)
  rw [z, hp] at e
  cases e) (h P hP)
theorem box_lst {H : Hp} {p : Addr} {n : Nat} (h : BoxAt H p n) : ∃ xs, H p = some (.lst xs) := by
  obtain ⟨a, b, c, h1, _⟩ := h
  exact ⟨_, h1⟩
theorem Tbs.fr {Ps : List Addr} {p : Addr} {n : Nat} {H H' : Hp} (h : Tbs Ps H) (B : BoxAt H p n) (f : Fr p H H') : Tbs Ps H' := (box_lst B).elim fun _ e => h.fs e (.of f)
theorem Tbs.same {Ps : List Addr} {H H' : Hp} (h : Tbs Ps H) (s : Same H H') : Tbs Ps H' := h.sm (.of s)
/-- what is written into a list of the def's own touches no table -/
theorem Tbs.put {Ps : List Addr} {H : Hp} {D : Addr} {xs ys : List V} (h : Tbs Ps H) (hd : H D = some (.lst xs)) : Tbs Ps (upd H D (.lst ys)) := h.fs hd (.of fr_updL)
where fr_updL : Fr D H (upd H D (.lst ys)) := fun b o n e => by rw [upd_ne n]; exact e
theorem Sm.put {H0 H : Hp} {D : Addr} {o : HO} (s : Sm H0 H) (h : H0 D = none) : Sm H0 (upd H D o) :=
  ⟨fun b u e n => by rw [upd_ne (ne_of_none e h)]; exact s.keep b u e n, fun b ⟨q, e, t⟩ => by
    obtain ⟨q2, e2, t2⟩ := s.tab b ⟨q, e, t⟩
    exact ⟨q2, by rw [upd_ne (ne_of_none e h)]; exact e2, t2⟩⟩
/-- a def of the text whose code object is known -/
structure FunC (K : PySem.W.Frag) (x qual : Str) (st : Stmt) (f : Addr) (fd : FuncData) (c : Addr) : Prop where
  ex : ∃ (oc : Value) (od : Option Addr) (kV doc pm : Value) (an : Option Addr) (ct : Value) (osl : Array (Option Value)),
    fd = PySem.W.fnOf x qual (defArgs st) (defBody st) (defScope st) .none kV doc pm an (.ref c) ct ∧ K.lookup f = some ⟨oc, od, .func fd, osl⟩ ∧ PySem.W.codeIn K (.ref c) qual = true
theorem funC_mk {K : PySem.W.Frag} {x qual : Str} {st : Stmt} {f c : Addr} {oc : Value} {od an : Option Addr} {osl : Array (Option Value)} {kV doc pm ct : Value} (l : K.lookup f = some ⟨oc, od, .func (PySem.W.fnOf x qual (defArgs st) (defBody st) (defScope st) .none kV doc pm an (.ref c) ct), osl⟩)
    (h : PySem.W.codeIn K (.ref c) qual = true) : FunC K x qual st f (PySem.W.fnOf x qual (defArgs st) (defBody st) (defScope st) .none kV doc pm an (.ref c) ct) c := ⟨⟨oc, od, kV, doc, pm, an, ct, osl, rfl, l, h⟩⟩
section
variable {P : Program} {w : World} {K : PySem.W.Frag} {mg : Str → Option Value} {base : Heap}
theorem FunC.ok {x qual : Str} {st : Stmt} {f c : Addr} {fd : FuncData} {N ps : List Str} {k : Nat} {sp : Sp} (F : FunC K x qual st f fd c) (S : FnScope N ps (defScope st)) (len : ∀ vs H Q E, sp vs H Q E → vs.length = ps.length)
    (body : ∀ (cdv : Value) (A : Around) (outer : List Env) (s : Shared) (H : Hp) (vs : List V) (Q : VK) (E : XK), cdv = .ref c → Room k (A.deeper (envOfC qual (defScope st) s.heap.objs.size f cdv)) → sp vs H Q E →
      ∃ t, PSs (cxOf CX0 P w K mg base N qual (defScope st) f cdv A outer s H E).nox (defBody st) t ∧ t { nx := fun _ H' => Q .non H', rt := Q } (start N vs) H) : FnOk P w K mg base CX0 (k + 1) f fd ps sp := by
  obtain ⟨_, _, _, _, _, _, _, _, rfl, lk, hcd⟩ := F.ex
  exact fn_of lk hcd S len fun A outer s H vs Q E hr hsp => (body (.ref c) A outer s H vs Q E rfl hr hsp).elim fun t z => ⟨t, z.1.nox, z.2⟩
end
section
variable {P : Program} {w : World} {K : PySem.W.Frag} {mg mb : Str → Option Value} {k : Nat} {fa a : Addr} {fd : FuncData} {x : Str} {sp : Sp} {s₁ : Shared} {vs : List Value} {ns : List Int}
/-- what is tracked when the law is called: the script and the tables -/
def scrT (K : PySem.W.Frag) (a : Addr) (ob : Obj) (ns : List Int) (Ps : List Addr) : Hp := fun b => if b ∈ Ps then some (.tbl #[]) else scr K a ob ns b
theorem scrT_some {ob : Obj} {Ps : List Addr} {b : Addr} {u : HO} (h : scrT K a ob ns Ps b = some u) : (b ∈ Ps ∧ u = .tbl #[]) ∨ (b ∉ Ps ∧ b = a ∧ K.lookup a = none ∧ u = .frz ob (.lst (ns.map V.int))) := by
  unfold scrT at h
  split at h
  · rename_i c
    exact .inl ⟨c, (Option.some.inj h).symm⟩
  · rename_i c
    exact .inr ⟨c, scr_some h⟩
abbrev eob : Obj := { cls := .none, data := .fields #[] }
theorem call_lawT {cs : List (Addr × Addr)} (inK : K.In s₁.heap) (gl : s₁.heap.Ns mainGlobals mg) (bl : s₁.heap.Ns builtinsNs mb) (boot : ∀ x : Str, x ≠ "__name__" → mb x = bootBuiltins x) (lim : s₁.heap.NoLimit) (quiet : s₁.gens = #[])
    (empty : ∀ p ∈ cs, s₁.heap.get? p.2 = some eob) (noK : ∀ p ∈ cs, K.lookup p.2 = none) (head : ∀ p ∈ cs, PySem.W.CodeHd s₁.heap p.1 p.2)
    (bmain : ∃ (bm : Addr) (ob : Obj), mg "__builtins__" = some (.ref bm) ∧ bm ≠ builtinsNs ∧ s₁.heap.get? bm = some ob ∧ ob.cls = .type "module" ∧ ob.dict = some builtinsNs ∧ ob.data = .plain)
    (there : s₁.heap.get? a = some { cls := .type "list", data := .seq vs.toArray }) (areInts : IntsAre vs ns) (len : ns.length ≤ sizeLine) (room : Room k callerA)
    (F : ∀ base : Heap, K.In base → base.Ns mainGlobals mg → (∀ p ∈ cs, GxR.TabB base mg p.1 p.2) → FnG P w K mg base k fa fd [x] sp) (binds : ∀ (s : Shared) (u : Value), BindsTo s fd ⟨[u], []⟩ [(x, u)])
    (asked : ∀ H : Hp, Tbs (cs.map (·.2)) H → SqL K H a (ns.map V.int) → sp [.ref a] H (fun v _ => v = .bl true) fun _ _ _ => False) :
    codeAny (model P w) callerA (.call (.ref fa) ⟨[.ref a], []⟩) (fun r s' => r = .ok (.ret (.bool true)) ∧ OldK s₁.heap s'.heap ∧ s'.os = s₁.os ∧ AllBare s'.gens) s₁ := by
  let ob : Obj := { cls := .type "list", data := .seq vs.toArray }
  let Ps := cs.map (·.2)
  let H := scrT K a ob ns Ps
  have at_ : ∀ {b u}, H b = some u → (b ∈ Ps ∧ u = .tbl #[]) ∨ (b ∉ Ps ∧ b = a ∧ K.lookup a = none ∧ u = .frz ob (.lst (ns.map V.int))) := scrT_some
  have isT : ∀ b ∈ Ps, s₁.heap.get? b = some eob := fun b hb => by
    obtain ⟨p, hp, e⟩ := List.mem_map.mp hb
    rw [← e]
    exact empty p hp
  have aT : a ∉ Ps := fun z => by
    have q := Option.some.inj ((isT a z).symm.trans there)
    have q2 : Data.fields #[] = Data.seq vs.toArray _ := congrArg Obj.data q
    cases q2
  have no : ∀ b o, s₁.heap.get? b = some o → (∀ q n, o.data ≠ .seq q n) → o.data ≠ .fields #[] → H b = none := fun b o e d1 d2 => by
    cases c : H b with
    | none => rfl
    | some u =>
      rcases at_ c with ⟨hb, _⟩ | ⟨_, rfl, _⟩
      · have q := Option.some.inj (e.symm.trans (isT b hb))
        exact absurd (by rw [q]) d2
      · have q := Option.some.inj (e.symm.trans there)
        exact absurd (by rw [q]) (d1 vs.toArray _)
  have keepNs : ∀ {b : Addr} {m : Str → Option Value}, s₁.heap.Ns b m → (hidT s₁.heap H).Ns b m := fun {b m} ⟨o, es, ep, e, d, r⟩ =>
    ⟨o, es, ep, hidT_get e (no b o e (fun q n z => by rw [d] at z; cases z) fun z => by rw [d] at z; cases z), d, r⟩
  have keepK : K.In (hidT s₁.heap H) := fun b o e => hidT_get (inK b o e) (by
    cases c : H b with
    | none => rfl
    | some u =>
      rcases at_ c with ⟨hb, _⟩ | ⟨_, rfl, n, _⟩
      · obtain ⟨p, hp, e2⟩ := List.mem_map.mp hb
        rw [← e2, noK p hp] at e
        cases e
      · rw [n] at e
        cases e)
  have rel := vals_ints areInts
  have holds : HOk P w H s₁.heap := fun b u c => by
    rcases at_ c with ⟨hb, rfl⟩ | ⟨_, rfl, _, rfl⟩
    · exact isT b hb
    · exact ⟨there, by rw [List.length_map]; exact len, vs, _, rel, there⟩
  have tbs : Tbs Ps H := fun b hb => ⟨#[], if_pos hb, by first | trivial | simp [TriplesOk]⟩
  have script : SqL K H a (ns.map V.int) := by
    cases c : K.lookup a with
    | none => exact Or.inl (Or.inr ⟨ob, (if_neg aT).trans (if_pos ⟨rfl, c⟩)⟩)
    | some o =>
      have e := Option.some.inj ((inK a o c).symm.trans there)
      subst e
      exact Or.inr ⟨_, vs.toArray, _, c, rfl, rfl, rfl, by rw [List.size_toArray, areInts.length]; exact len, by simpa using rel⟩
  have modul : Mod K mg (hidT s₁.heap H) := ⟨keepK, keepNs gl, ⟨mb, keepNs bl, boot⟩, lim.elim fun mc z => ⟨mc, keepNs z.1, z.2⟩⟩
  have tabB : ∀ p ∈ cs, GxR.TabB (hidT s₁.heap H) mg p.1 p.2 := fun p hp => by
    refine ⟨?_, ?_, fun z => ?_⟩
    · obtain ⟨o, us, file, tf, flags, tg, inF, text, tt, e1, r0, r1, r2, rest⟩ := head p hp
      refine ⟨o, us, file, tf, flags, tg, inF, text, tt, hidT_get e1 (no _ _ e1 (fun q n z => ?_) fun z => ?_), r0, r1, r2, rest⟩
      · rw [r1] at z
        cases z
      · rw [r1] at z
        cases z
        simp at r2
    · obtain ⟨bm, o, b1, b2, b3, b4, b5, b6⟩ := bmain
      refine ⟨bm, o, b1, b2, fun q => ?_, fun q => ?_, hidT_get b3 (no _ _ b3 (fun q n z => ?_) fun z => ?_), b4, b5, b6⟩
      · obtain ⟨o2, es, ep, e, d, _⟩ := gl
        rw [q, e] at b3
        cases b3
        rw [d] at b6
        cases b6
      · rw [q, empty p hp] at b3
        cases b3
        cases b6
      · rw [b6] at z
        cases z
      · rw [b6] at z
        cases z
    · obtain ⟨o2, es, ep, e, d, _⟩ := gl
      rw [z, empty p hp] at e
      cases e
      cases d
  have start0 : Env0 P w K mg (hidT s₁.heap H) callerA [] s₁ H := ⟨rfl, modul, fun b o e => of_hidT e, Nat.le_of_eq (hidT_size _ _), trivial, fun b hb => (List.not_mem_nil hb).elim, holds, .of_eq quiet⟩
  refine codeAny_mono ((F _ keepK (keepNs gl) tabB).does callerA [] s₁ H _ [.ref a] [.ref a] _ _ room rfl start0 (binds s₁ (.ref a)) (.cons rfl .nil) (asked H tbs script)) ?_
  intro r s' post
  match r, post with
  | .error e, post => exact False.elim post
  | .ok .next, post => exact post.elim
  | .ok .brk, post => exact post.elim
  | .ok .cont, post => exact post.elim
  | .ok (.ret u), ⟨v, H', os, bare, un, held, rv, e⟩ =>
    cases (show v = V.bl true from e)
    cases (show u = Value.bool true from rv)
    have key : ∀ b o, b ∉ Ps → s₁.heap.get? b = some o → s'.heap.get? b = some o := fun b o nb g => by
      cases c : H b with
      | none => exact un.keep b o g c (fun z => (List.not_mem_nil z).elim) (fun z => (List.not_mem_nil z).elim)
      | some u =>
        rcases at_ c with ⟨hb, _⟩ | ⟨_, rfl, _, rfl⟩
        · exact absurd hb nb
        · rw [Option.some.inj (g.symm.trans there)]
          exact (held b _ (un.frzs b ob _ c)).1
    have grown : ∀ p ∈ cs, ∃ more : Array Value, s'.heap.get? p.2 = some { cls := .none, data := .fields more } := fun p hp =>
      (un.tbls p.2 #[] (if_pos (List.mem_map.mpr ⟨p, hp, rfl⟩))).elim fun more z => ⟨_, held p.2 _ z⟩
    refine ⟨rfl, ⟨fun b o g => ?_, fun b o g => ?_⟩, os, bare⟩
    · by_cases hb : b ∈ Ps
      · obtain ⟨p, hp, e2⟩ := List.mem_map.mp hb
        obtain ⟨more, hm⟩ := grown p hp
        subst e2
        cases Option.some.inj (g.symm.trans (empty p hp))
        exact .inr (.inl ⟨((head p hp).tab (empty p hp)).isCodeTable, rfl, #[], more, rfl, by rw [Array.empty_append]; exact hm⟩)
      · exact .inl (key b o hb g)
    · by_cases hb : b ∈ Ps
      · obtain ⟨p, hp, e2⟩ := List.mem_map.mp hb
        subst e2
        exact (grown p hp).elim fun _ z => ⟨_, z⟩
      · exact ⟨o, key b o hb g⟩
end
/-- the goal that is left of a law: xs, the defs in which a generator expression stands -/
theorem walk_ofT {l : PySem.W.OpenLaw} {n k : Nat} {q : Program} {loose : List Str} {XP : (Str → Option Value) → Heap → Prop} {YP : World → Heap → Prop} {d : DefRec} {K : Params → PySem.W.Frag} {sp : World → List Addr → Sp} {x : Str} (xs : List Str)
    (most : l.most = some n) (n9 : n ≤ sizeLine) (nodf : d.params.defaults = []) (room : Room k callerA) (inK : ∀ (w : World) (h : Heap), YP w h → (K w.params).In h) (recs : ∀ y ∈ xs, ((recsOf q).any fun e => e.name == y) = true)
    (F : ∀ (w : World) (mg : Str → Option Value) (fa : Addr) (h : Heap), (K w.params).In h → h.Ns mainGlobals mg → mg d.name = some (.ref fa) →
      ∃ (fd : FuncData) (cs : List (Addr × Addr)), (∀ p ∈ cs, ∃ y ∈ xs, PySem.W.tabIn (K w.params) y = some p) ∧ (∀ p ∈ cs, (K w.params).lookup p.2 = none) ∧ (∀ (s : Shared) (u : Value), BindsTo s fd ⟨[u], []⟩ [(x, u)]) ∧
        ∀ base : Heap, (K w.params).In base → base.Ns mainGlobals mg → (∀ p ∈ cs, GxR.TabB base mg p.1 p.2) → FnG l.prog w (K w.params) mg base k fa fd [x] (sp w (cs.map (·.2))))
    (asked : ∀ (w : World) (Ps : List Addr) (H : Hp) (a : Addr) (ns : List Int), ns.length ≤ n → Tbs Ps H → SqL (K w.params) H a (ns.map V.int) → sp w Ps [.ref a] H (fun v _ => v = .bl true) fun _ _ _ => False) :
    PySem.W.WalkO q loose XP YP l.row.toRowW d [] (fun f vs => PySem.call f vs) :=
  Att.attach_call most nodf fun w s₀ s₁ mg mb fa o pm cd doc a vs ns G Y ho hd hcd hmg hobj hints hlen hg => by
    obtain ⟨fd, cs, ht, hn, b, f⟩ := F w mg fa _ (inK w _ Y) G.T.g hmg
    have tab : ∀ p ∈ cs, PySem.W.CodeHd s₁.heap p.1 p.2 ∧ s₁.heap.get? p.2 = some eob := fun p hp => by
      obtain ⟨y, hy, e⟩ := ht p hp
      obtain ⟨r, hr⟩ : ∃ r, (recsOf q).find? (fun e => e.name == y) = some r := Option.isSome_iff_exists.mp (by
        rw [List.find?_isSome]
        exact List.any_eq_true.mp (recs y hy))
      exact PySem.W.tab_of G.T (inK w _ Y) hr e
    exact call_lawT (inK w _ Y) G.T.g G.T.b G.T.builtins G.T.nolimit hg (fun p hp => (tab p hp).2) hn (fun p hp => (tab p hp).1) G.T.bmain hobj hints (Nat.le_trans hlen n9) room f b fun H tbs sc => asked w _ H a ns hlen tbs sc
/-- a comprehension in a comprehension -/
theorem blkOk_nest {N : List Str} {outer scope sc : Scope} {own : List (Str × Nat)} {cl : List (Str × Addr)} {C : Addr} {env : Env} (hs : env.scope = sc) (h : blkC N (relS outer sc) scope own = true) : BlkOk N (compEnvC outer cl C env).scope scope own := by
  subst hs
  exact blkOk_by h
/-- tuple(x) of a list or a tuple -/
def rTupI (K : PySem.W.Frag) : List V → Hp → VK → Prop := fun xs H Q => ∃ p ys, xs = [.ref p] ∧ ((SqL K H p ys ∧ ∀ l H', Same H H' → H l = none → H' l = some (.tup ys) → Q (.ref l) H') ∨ (SqT K H p ys ∧ Q (.ref p) H))
theorem tupI {X : Cx} {K : PySem.W.Frag} (h : X.K = K) : CallR X (.type "tuple") (rTupI K) := fun pins s σ H xs us Q I r ⟨p, ys, e, q⟩ =>
  call_tuple_of pins s σ H xs us Q I r ⟨p, ys, e, h ▸ q.imp (fun z => ⟨z.1, fun l hl => z.2 l _ (same_new hl) hl upd_same⟩) id⟩
theorem tabIn_of {K : PySem.W.Frag} {x : Str} {f c P : Addr} {oc e : Value} {od dd : Option Addr} {fd : FuncData} {osl sl : Array (Option Value)} {vs : Array Value} (a : PySem.W.nsIn K mainGlobals x = some (some (.ref f))) (l : K.lookup f = some ⟨oc, od, .func fd, osl⟩)
    (hc : fd.code = .ref c) (q : K.lookup c = some ⟨e, dd, .fields vs, sl⟩) (p : vs[11]? = some (.ref P)) : PySem.W.tabIn K x = some (c, P) := by
  unfold PySem.W.tabIn
  rw [a]
  dsimp only
  rw [l]
  dsimp only
  rw [hc]
  dsimp only
  rw [q]
  dsimp only
  rw [p]
end KR
/-! ### all(test for x in ..) whose test names one local of the def (a cell) -/
namespace KR
open PySem PySem.Spec PyProof.Rows L2
/-- the frame's scope: one name of its own, one captured -/
structure GnF (scope : Scope) (x y : Str) : Prop where
  kind : scope.kind = .function
  co : scope.isCoroutine = false
  cell : ∀ z ∈ scope.names, z.2 ≠ .cell
  free : ∀ z ∈ scope.names, z.2 = .free → z.1 = y
  clo : ∀ cells : List (Str × Addr), cloFrom cells scope.names [] = [(y, (cells.lookup y).getD 0)]
  fy : scope.names.lookup y = some .free
  dot : scope.names.lookup (".0" : Str) = some NameKind.local
  loc : scope.names.lookup x = some .local
theorem GnF.ne {scope : Scope} {x y : Str} (S : GnF scope x y) : x ≠ y := fun e => by
  have := S.loc.symm.trans (e ▸ S.fy)
  cases this
/-- the frame's environment, its around -/
abbrev gEnvF (X : Cx) (scope : Scope) (y : Str) (cy C : Addr) (code : Value) : Env := genEnv scope [(y, cy)] C code builtinsNs X.env
/-- the frame's context: it began at s, H; fp: what is walked -/
abbrev gCxF (X : Cx) (ge : Expr) (it : Addr) (x y : Str) (s : Shared) (H : Hp) (env : Env) (fp : List Addr) : Cx :=
  { prog := X.prog, w := X.w, K := X.K, mg := X.mg, base := X.base, A := gAr X ge it env, N := [x, y], s_0 := s, H_0 := H, env := env, outer := X.stack, stack := env :: X.stack, ex := fp, fn := fun _ => false, calm := true, pn := [], xe := fun _ _ => False }
section
variable {X : Cx} {pins : List (Addr × Obj)} {σ : L2.St} {H : Hp} {s : Shared}
theorem gen_okF {elt : Expr} {cs : List Comprehension} {sc : Scope} {gp : Pos} {it : Addr} {x y : Str} {cy : Addr} {scope : Scope} {code : Value} {fp : List Addr} (I : Inv X pins σ H s) (S : GnF scope x y) (hcy : X.env.cells.lookup y = some cy) (hh : X.A.handled = none) (hfp : ∀ b ∈ fp, FpOk X pins H b ∧ b < s.heap.objs.size) :
    (gCxF X (.GeneratorExp elt cs sc gp) it x y s H (gEnvF X scope y cy s.heap.objs.size code) fp).Ok := by
  have one : ∀ z c, ([(y, cy)] : List (Str × Addr)).lookup z = some c → z = y ∧ c = cy := fun z c e => by
    rw [List.lookup_cons] at e
    cases hz : z == y with
    | true =>
      rw [hz] at e
      exact ⟨by simpa using hz, (Option.some.inj e).symm⟩
    | false =>
      rw [hz] at e
      cases e
  exact {
    mod := I.ok.mod, kind := S.kind, glob := I.ok.glob, blt := rfl, above := Nat.le_refl _
    inj := fun z u c e1 e2 => (one z c e1).1.trans (one u c e2).1.symm
    has := fun z h => (by
      rcases h with h | h
      · exact absurd rfl (S.cell _ (PySem.mem_of_lookup h))
      · have e := S.free _ (PySem.mem_of_lookup h) rfl
        have e : z = y := e
        subst e
        exact ⟨cy, by show ([(z, cy)] : List (Str × Addr)).lookup z = some cy; rw [List.lookup_cons, beq_self_eq_true]⟩)
    cab := fun y c z _ => (by cases z)
    hd := fun _ => hh
    frames := (by
      show pushEnvs [gEnvF X scope y cy s.heap.objs.size code] (pushEnvs [] X.A.frames) = _
      rw [I.ok.frames] <;> rfl)
    stk := .inr ⟨rfl, rfl⟩
    exf := fun b hb => ⟨Nat.ne_of_lt (hfp b hb).2, fun z c e => (by
      have e2 := (one z c e).2
      rw [e2]
      exact (hfp b hb).1.2.2.2.2.1 y cy hcy)⟩
    bs := I.bs, bsz := Nat.le_trans I.ok.bsz I.sz
    noex := fun b o e hb => (by
      obtain ⟨_, _, _, old | old, _⟩ := (hfp b hb).1
      · exact I.ok.noex b o e old
      · have z := Heap.lt_size e
        have z2 := I.ok.bsz
        exact Nat.lt_irrefl b (Nat.lt_of_lt_of_le z (Nat.le_trans z2 old)))
    exfs := fun b hb hf => (by
      obtain ⟨⟨_, n1, n2, _⟩, _⟩ := hfp b hb
      rcases List.mem_cons.mp (I.stkSub b hf) with e | e
      · exact n1 e
      · exact n2 e)
    funs := I.stack, frf := I.stkFree }
/-- the frame as it begins: its space at C, its generator behind it -/
theorem gen_invF {elt : Expr} {cs : List Comprehension} {sc : Scope} {gp : Pos} {it : Addr} {x y : Str} {cy : Addr} {w : V} {scope : Scope} {code : Value} {fp : List Addr} {h' : Heap} {G : Obj} {g' : Array GenState} {tk : Nat} {m : Str → Option Value} (I : Inv X pins σ H s) (S : GnF scope x y) (hcy : X.env.cells.lookup y = some cy) (hw : ∃ u, RelV w u ∧ s.heap.IsCell cy (some u)) (hh : X.A.handled = none)
    (hfp : ∀ b ∈ fp, FpOk X pins H b ∧ b < s.heap.objs.size) (hn : h'.Ns s.heap.objs.size m) (hsz : h'.objs.size = s.heap.objs.size + 1) (kp : ∀ b o, s.heap.get? b = some o → h'.get? b = some o) (hg : AllBare g') (hG : ∀ v, G.data ≠ .cell v) (hF : G.isFreed = false) :
    Inv (gCxF X (.GeneratorExp elt cs sc gp) it x y s H (gEnvF X scope y cy s.heap.objs.size code) fp) [(h'.objs.size, G)] [none, some w] H { s with heap := h'.push G, gens := g', toks := tk } := by
  have gone : ∀ z c, ([(y, cy)] : List (Str × Addr)).lookup z = some c → z = y ∧ c = cy := fun z c e => by
    rw [List.lookup_cons] at e
    cases hz : z == y with
    | true =>
      rw [hz] at e
      exact ⟨by simpa using hz, (Option.some.inj e).symm⟩
    | false =>
      rw [hz] at e
      cases e
  have kp2 : ∀ b o, s.heap.get? b = some o → (h'.push G).get? b = some o := fun b o e => Heap.get?_push_of_some _ (kp b o e)
  have gt : s.heap.objs.size ≤ h'.objs.size := by omega
  exact {
    ok := gen_okF I S hcy hh hfp, os := rfl, bare := hg, base := Un.kept kp2
    loc := ⟨m, hn.push _, fun i z v e0 e vis => (by
      match i, e0, e with
      | 0, _, e => cases e
      | 1, e0, e =>
        cases e0
        cases e
        obtain ⟨u, ru, hu⟩ := hw
        exact ⟨u, ru, .inr ⟨.inr S.fy, cy, by show ([(y, cy)] : List (Str × Addr)).lookup y = some cy; rw [List.lookup_cons, beq_self_eq_true], hu.imp fun o ho => ⟨kp2 _ _ ho.1, ho.2⟩⟩⟩
      | j + 2, e0, _ => cases e0)⟩
    cell := fun z c e => (by
      have e2 := (gone z c e).2
      rw [e2]
      obtain ⟨u, _, hu⟩ := hw
      exact ⟨_, hu.imp fun o ho => ⟨kp2 _ _ ho.1, ho.2⟩⟩)
    free := I.hok.fresh (Nat.le_refl _)
    freeC := fun z c e => (by
      have e2 := (gone z c e).2
      rw [e2]
      exact I.freeC y cy hcy)
    pin := fun p hp => (by
      obtain rfl := List.mem_singleton.mp (show p ∈ [(h'.objs.size, G)] from hp)
      refine ⟨Heap.get?_push_size _ hF, I.hok.fresh gt, fun z => ?_, fun z => ?_, hG⟩
      · have z2 : h'.objs.size = s.heap.objs.size := z
        omega
      · rcases List.mem_cons.mp (I.stkSub _ z) with e | e
        · have z2 := I.lt
          rw [← e] at z2
          have z3 : h'.objs.size < s.heap.objs.size := z2
          omega
        · exact I.nofs gt e)
    hok := I.hok.kept kp2, len := rfl }
end
/-- what is so between two steps of the generator, i things taken -/
def GStF (w : V) (Y : Cx) (pn : List (Addr × Obj)) (tn : Nat → Heap → Prop) (fp : List Addr) (W : Nat → Hp → Prop) (i : Nat) (s : Shared) : Prop :=
  ∃ H', Inv Y pn [none, some w] H' s ∧ tn i s.heap ∧ (∀ b ∈ fp, H' b = none) ∧ W i H'
/-- how it ends, how it hands out -/
def gFinF (w : V) (Y : Cx) (pn : List (Addr × Obj)) (Q : VK) (b : Bool) (s : Shared) : Prop := ∃ H', Inv Y pn [none, some w] H' s ∧ Q (.bl b) H'
abbrev gEndF (w : V) (Y : Cx) (pn : List (Addr × Obj)) (Q : VK) : GenEnd := fun _ _ r s1 => r = .ok .next ∧ gFinF w Y pn Q true s1
def gProF (w : V) (Y : Cx) (pn : List (Addr × Obj)) (tn : Nat → Heap → Prop) (fp : List Addr) (W : Nat → Hp → Prop) (Q : VK) : Protocol := fun _ _ v s kap =>
  ∃ b : Bool, v = .bool b ∧ (b = true → ∃ i, GStF w Y pn tn fp W i s ∧ ∀ s', GStF w Y pn tn fp W i s' → kap (.send .none) s') ∧ (b = false → gFinF w Y pn Q false s)
/-- one turn's reading -/
def GTurnF (w : V) (J : It) (te : TE) (n : Nat) (W : Nat → Hp → Prop) (Q : VK) : Prop := ∀ i H2, W i H2 →
  (J.stop i H2 ∧ Q (.bl true) H2) ∨ (J.go i H2 ∧ i < n ∧ ∀ x H3, J.yld i H2 x H3 → te [some x, some w] H3 fun u H4 => ∃ b, u = .bl b ∧ if b = true then W (i + 1) H4 else Q (.bl false) H4)
section
variable {X : Cx} {elt iter : Expr} {x y : Str} {w : V} {px gp : Pos} {sc : Scope} {it C : Addr} {s₁ : Shared} {H₁ : Hp} {code : Value} {fp : List Addr} {pn : List (Addr × Obj)} {tn : Nat → Heap → Prop} {J : It} {te : TE} {n : Nat} {W : Nat → Hp → Prop} {Q : VK}
theorem gen_segF {Y : Cx} {env : Env} (hY : Y = gCxF X (.GeneratorExp elt [⟨.Name x px, iter, [], 0⟩] sc gp) it x y s₁ H₁ env fp) (hco : env.scope.isCoroutine = false) (T : Turn X.prog X.w X.K (.Name x px) J fp it tn)
    (pg : PG Y (.Name x px) (gName 0)) (pe : PE Y elt te) (turn : GTurnF w J te n W Q) (hpn : ∀ b ∈ fp, ∀ p ∈ pn, p.1 ≠ b) :
    ∀ (m i : Nat) (s s₀ : Shared), n - i = m → GStF w Y pn tn fp W i s → Seg (model X.prog X.w) X.A.in1.in1 (gEndF w Y pn Q) (gProF w Y pn tn fp W Q) m s₀
      (.compLoop (.GeneratorExp elt [⟨.Name x px, iter, [], 0⟩] sc gp) 0 (.ref it) .none env) ((model X.prog X.w).den (.compLoop (.GeneratorExp elt [⟨.Name x px, iter, [], 0⟩] sc gp) 0 (.ref it) .none env)) [] s := by
  have hA : Y.A = X.A.in1.in1.over (.compLoop (.GeneratorExp elt [⟨.Name x px, iter, [], 0⟩] sc gp) 0 (.ref it) .none env) [] := by rw [hY]
  have hP : Y.prog = X.prog := by rw [hY]
  have hW : Y.w = X.w := by rw [hY]
  have hK : Y.K = X.K := by rw [hY]
  have hC : Y.calm = true := by rw [hY]
  have hE : Y.env = env := by rw [hY]
  have hX : Y.ex = fp := by rw [hY]
  have hN : Y.pn = [] := by rw [hY]
  have hxe : Y.xe = fun _ _ => False := by rw [hY]
  have stat : ∀ {σ' : L2.St} {H' : Hp} {s' : Shared}, Inv Y pn σ' H' s' → (∀ b ∈ fp, H' b = none) → ∀ b ∈ fp, FpOk Y pn H' b := fun {σ' H' s'} I' hn b hb => by
    have hb2 : b ∈ Y.ex := by rw [hX]; exact hb
    refine ⟨hn b hb, (I'.ok.exf b hb2).1, I'.ok.exfs b hb2, .inl hb2, fun y c e => (I'.ok.exf b hb2).2 y c e, fun p hp => ?_⟩
    rw [hN] at hp
    exact hpn b hb p hp
  have runG := fun pins s σ H v u Q => pg.run pins s σ H v u Q
  have runE := fun pins s σ H Q => pe.run pins s σ H Q
  rw [hA, hP, hW, hE, hxe] at runG runE
  intro m
  induction m with
  | zero =>
    rintro i s s₀ hm ⟨H, I, st, nf, wv⟩
    show Seg _ _ _ _ _ s₀ _ ((compTurn _ 0 (.ref it) .none env).onRaise (leaving env)) [] s
    rw [compTurn_gen, Sem.onRaise_eq_wrap]
    refine seg_bind_wrap (wpAny_standAt ?_)
    rcases turn i H wv with ⟨stop, q⟩ | ⟨_, lt, _⟩
    · have td := T.done Y hP hW hK hC i pn s _ H (fun _ _ => False) I (stat I nf) st stop
      rw [hA] at td
      refine seg_bind_wrap (thnF td fun r s2 ⟨e, I2⟩ => ?_)
      rw [e]
      exact seg_end (.ok .next) ⟨rfl, H, I2, q⟩
    · exact absurd lt (by omega)
  | succ m ih =>
    rintro i s s₀ hm ⟨H, I, st, nf, wv⟩
    show Seg _ _ _ _ _ s₀ _ ((compTurn _ 0 (.ref it) .none env).onRaise (leaving env)) [] s
    rw [compTurn_gen, Sem.onRaise_eq_wrap]
    refine seg_bind_wrap (wpAny_standAt ?_)
    rcases turn i H wv with ⟨stop, q⟩ | ⟨go, lt, step⟩
    · have td := T.done Y hP hW hK hC i pn s _ H (fun _ _ => False) I (stat I nf) st stop
      rw [hA] at td
      refine seg_bind_wrap (thnF td fun r s2 ⟨e, I2⟩ => ?_)
      rw [e]
      exact seg_end (.ok .next) ⟨rfl, H, I2, q⟩
    · have ti := T.item Y hP hW hK hC i pn s _ H (fun _ _ => False) I (stat I nf) st go
      rw [hA] at ti
      refine seg_bind_wrap (thnF ti fun r s2 ⟨u, e, h2⟩ => ?_)
      rw [e]
      refine seg_bind_wrap (thnF h2 fun _ s3 ⟨y0, H3, I3, r3, y3, st3, n3⟩ => ?_)
      have I3' := I3.pinned (stat I3 n3) (T.obj _ _ st3)
      refine seg_bind_wrap (thnF (runG _ s3 _ H3 y0 u _ I3' r3 (show gName 0 y0 [none, some w] H3 (fun σ' H' => σ' = [some y0, some w] ∧ H' = H3) from ⟨rfl, rfl⟩)) fun _ s4 ⟨σ4, H4, I4, e4, e5⟩ => ?_)
      subst e4 e5
      refine seg_bind_wrap (wpAny_tests_nil ?_)
      simp only [if_true]
      have yo : ∀ v, yieldOut env v = yieldValue v := fun v => by
        unfold yieldOut
        rw [hco] <;> rfl
      simp only [yo]
      rw [Sem.bind_eq_wrap', Sem.bind_eq_wrap', Sem.wrap_wrap, Sem.wrap_wrap]
      refine seg_wrap (thnF (runE _ s4 _ _ _ I4 (step y0 _ y3)) fun v s5 ⟨yv, H5, I5, r5, b, e5, q5⟩ => ?_)
      subst e5
      obtain rfl : v = Value.bool b := r5
      have pin' : ∀ b ∈ fp, ∀ o, s3.heap.get? b = some o → s5.heap.get? b = some o ∧ H5 b = none := fun b hb o e =>
        let z := I5.pin (b, o) (List.mem_append_right _ (List.mem_append_right _ (mem_pinsAt hb e)))
        ⟨z.1, z.2.1⟩
      have I6 : Inv Y pn [none, some w] H5 s5 := I5.unpinned.weak rfl fun j v e => by
        match j, e with
        | 0, e => cases e
        | 1, e => exact e
        | j + 2, e => cases e
      have done : W (i + 1) H5 → GStF w Y pn tn fp W (i + 1) s5 := fun w5 => ⟨H5, I6, T.keep _ _ _ st3 fun b hb o e => (pin' b hb o e).1, fun b hb => (by
        obtain ⟨o, e, _⟩ := T.obj _ _ st3 b hb
        exact (pin' b hb o e).2), w5⟩
      refine seg_at (seg_yield rfl rfl rfl ⟨b, rfl, fun hb => ?_, fun hb => ?_⟩)
      · rw [if_pos hb] at q5
        exact ⟨i + 1, done q5, fun s' hj => seg_again rfl (ih (i + 1) s' s' (by omega) hj)⟩
      · rw [if_neg (by rw [hb]; exact Bool.false_ne_true)] at q5
        exact ⟨H5, I6, q5⟩
/-- the generator at a, its number g: what it does next -/
def GAtF (w : V) (M : Model) (A : Around) (Y : Cx) (pn : List (Addr × Obj)) (tn : Nat → Heap → Prop) (fp : List Addr) (W : Nat → Hp → Prop) (Q : VK) (g m : Nat) (s : Shared) : Prop :=
  ∃ i gs, GStF w Y pn tn fp W i s ∧ s.gens[g]? = some gs ∧ ∀ s', GStF w Y pn tn fp W i s' → gs.Goes M A (gEndF w Y pn Q) (gProF w Y pn tn fp W Q) m (.send .none) s'
theorem gst_setF {Y : Cx} {i g : Nat} {s : Shared} {gs0 : GenState} (h : GStF w Y pn tn fp W i s) (hy : gs0.bare = true) : GStF w Y pn tn fp W i (s.setGen g gs0) := by
  obtain ⟨H', I, r⟩ := h
  exact ⟨H', inv_setGen I hy, r⟩
theorem fin_setF {Y : Cx} {g : Nat} {s : Shared} {gs0 : GenState} {b : Bool} (h : gFinF w Y pn Q b s) (hy : gs0.bare = true) : gFinF w Y pn Q b (s.setGen g gs0) := by
  obtain ⟨H', I, r⟩ := h
  exact ⟨H', inv_setGen I hy, r⟩
theorem fin_keptF {Y : Cx} {s : Shared} {b : Bool} {h' : Heap} (h : gFinF w Y pn Q b s) (k : ∀ b o, s.heap.get? b = some o → h'.get? b = some o) : gFinF w Y pn Q b { s with heap := h' } := by
  obtain ⟨H', I, r⟩ := h
  exact ⟨H', I.kept (t' := s.toks) k, r⟩
theorem all_runF {Y : Cx} {a : Addr} {g : Nat} {G : Obj} {R : Result → Shared → Prop} (hp : (a, G) ∈ pn) (hG : ∀ h : Heap, h.get? a = some G → h.IsGen a g) (hh : X.A.handled = none) (hd : X.A.depth + 2 < recursionLimit)
    (hR : ∀ b s', gFinF w Y pn Q b s' → R (.ok (.ret (.bool b))) s') :
    ∀ (m : Nat) (s : Shared), GAtF w (model X.prog X.w) X.A.in1.in1 Y pn tn fp W Q g m s → codeAny (model X.prog X.w) X.A (.builtin "all.loop" ⟨[.ref a], []⟩) R s := by
  have turn : ∀ (m : Nat) (s : Shared), GAtF w (model X.prog X.w) X.A.in1.in1 Y pn tn fp W Q g m s →
      (∀ s', (∃ k, m = k + 1 ∧ GAtF w (model X.prog X.w) X.A.in1.in1 Y pn tn fp W Q g k s') → codeAny (model X.prog X.w) X.A (.builtin "all.loop" ⟨[.ref a], []⟩) R s') → codeAny (model X.prog X.w) X.A (.builtin "all.loop" ⟨[.ref a], []⟩) R s := by
    rintro m s ⟨i, gs, st, hgs, goes⟩ next
    obtain ⟨H, I, _⟩ := id st
    have gen : s.heap.IsGen a g := hG _ (I.pin (a, G) (List.mem_append_right _ hp)).1
    have hgl : g + 1 ≤ s.gens.size := (Array.getElem?_eq_some_iff.mp hgs).1
    refine codeAny_builtin (F.entry_all_loop) ?_
    rw [Around.under_plainId (F.plain_all_loop) _]
    show wpAny (model X.prog X.w) X.A.in1 (pyNext (.ref a) >>= _) _ _ s
    refine wpAny_bind (GenW.wpAny_gsz (n := g + 1) hgl (wpAny_pyNext_genexpQ (n := m) (P := fun _ _ s1 => gFinF w Y pn Q true s1) (Y := gProF w Y pn tn fp W Q) hh I.nolimit (by show X.A.depth < recursionLimit; omega) gen hgs (goes _ (gst_setF st rfl)) (fun v s1 gs' hb hv => ?_) (fun s1 hf h' hk => ?_)))
    · intro hgl2
      obtain ⟨b, rfl, yes, no⟩ := hv
      refine wpAny_bind (wpAny_holding (wpAny_truthy_bool ?_))
      refine wpAny_bind (wpAny_letGo ?_)
      cases b with
      | true =>
        obtain ⟨i2, st2, kap⟩ := yes rfl
        simp only [if_true]
        cases m with
        | zero => exact (kap s1 st2).elim
        | succ k => exact wpAny_pure ⟨plainId_quiet (F.plain_all_loop) _, next _ ⟨k, rfl, i2, gs', gst_setF st2 hb, set_at hgl2, fun s' h => kap s' h⟩⟩
      | false =>
        simp only [Bool.false_eq_true, if_false]
        exact wpAny_bind (wpAny_rule (wpAny_pure (hR false _ (fin_setF (no rfl) hb))))
    · intro _
      refine wpAny_bind (wpAny_rule (wpAny_pure ?_))
      exact hR true _ (fin_keptF (fin_setF hf rfl) hk)
  intro m
  induction m with
  | zero => exact fun s h => turn 0 s h fun s' ⟨k, e, _⟩ => (by cases e)
  | succ m ih => exact fun s h => turn (m + 1) s h fun s' ⟨k, e, z⟩ => ih s' (by cases e; exact z)
end
/-- .. in the def: the table of the def's code may have grown ahead of it -/
def tAllF (P : Addr) (j : Nat) (wi : TI) (te : TE) : TE := fun σ H Q => wi σ H fun J H1 => GxR.TabG H1 P ∧ ∃ (w : V) (n : Nat) (W : Nat → Hp → Prop), σ[j]? = some (some w) ∧ (∀ H2, GxR.Tabbed P H1 H2 → W 0 H2) ∧ GTurnF w J te n W Q
theorem gen_denF {w : V} {X : Cx} {elt iter : Expr} {x : Str} {px gp : Pos} {sc : Scope} {it : Addr} {env : Env} {fp : List Addr} {pn : List (Addr × Obj)} {tn : Nat → Heap → Prop} {W : Nat → Hp → Prop} {Q : VK} {Y : Cx} {J : It} {n : Nat} (T : Turn X.prog X.w X.K (.Name x px) J fp it tn)
    (loop : ∀ (s s₀ : Shared), GStF w Y pn tn fp W 0 s → Seg (model X.prog X.w) X.A.in1.in1 (gEndF w Y pn Q) (gProF w Y pn tn fp W Q) n s₀ (.compLoop (.GeneratorExp elt [⟨.Name x px, iter, [], 0⟩] sc gp) 0 (.ref it) .none env)
      ((model X.prog X.w).den (.compLoop (.GeneratorExp elt [⟨.Name x px, iter, [], 0⟩] sc gp) 0 (.ref it) .none env)) [] s) (s s₀ : Shared) (st : GStF w Y pn tn fp W 0 s) :
    Seg (model X.prog X.w) X.A.in1.in1 (gEndF w Y pn Q) (gProF w Y pn tn fp W Q) n s₀ (.compStart (.GeneratorExp elt [⟨.Name x px, iter, [], 0⟩] sc gp) 0 (.ref it) .none env)
      ((model X.prog X.w).den (.compStart (.GeneratorExp elt [⟨.Name x px, iter, [], 0⟩] sc gp) 0 (.ref it) .none env)) [] s := by
  have go := loop s s₀ st
  obtain ⟨H', I, st0, _⟩ := id st
  show Seg _ _ _ _ _ s₀ _ ((compStart _ 0 (.ref it) .none env).onRaise (leaving env)) [] s
  unfold compStart
  rw [Sem.onRaise_eq_wrap]
  show Seg _ _ _ _ _ s₀ _ ((ask >>= _).wrap _ _ _ _) [] s
  refine seg_bind_wrap (wpAny_askSetting ?_)
  split
  · exact seg_again rfl go
  · refine seg_bind_wrap (wpAny_rule ?_)
    show Seg _ _ _ _ _ s₀ _ ((standAt iter.pos >>= _).wrap _ _ _ _) [] s
    refine seg_bind_wrap (wpAny_standAt (seg_bind_wrap ?_))
    exact T.self _ 0 s _ _ st0 (seg_again rfl go)
theorem pe_allF {X : Cx} {c P : Addr} {elt iter : Expr} {x y : Str} {jy : Nat} {px p pos gp : Pos} {scope : Scope} {wi : TI} {te : TE} {k : Nat}
    (hr : Room k X.A) (hg : Gl X "all") (hm : X.mg "all" = none) (hb : bootBuiltins "all" = some (.builtin "all")) (TB : GxR.TabB X.base X.mg c P) (hcode : X.env.code = .ref c) (S : GnF scope x y) (hN : X.N[jy]? = some y) (hky : X.env.kindOf y = some .cell) (hi : PI X (.Name x px) iter wi)
    (hel : ∀ (it cy C : Addr) (s : Shared) (H : Hp) (code : Value) (fp : List Addr), PE (gCxF X (.GeneratorExp elt [⟨.Name x px, iter, [], 0⟩] scope gp) it x y s H (gEnvF X scope y cy C code) fp) elt te)
    (hs : ∀ v, genFold iter X.env v = pure v)
    (he : starEach [.GeneratorExp elt [⟨.Name x px, iter, [], 0⟩] scope gp] X.env = (false, eval (.GeneratorExp elt [⟨.Name x px, iter, [], 0⟩] scope gp) X.env) :: starEach [] X.env := by rfl) :
    PE X (.Call (.Name "all" p) [.GeneratorExp elt [⟨.Name x px, iter, [], 0⟩] scope gp] [] pos) (tAllF P jy wi te) := by
  have dep := hr.dp
  refine ⟨fun pins s σ H Q I h => ?_⟩
  refine wpAny_Call_Name_kw (ld_blt I hg hm hb ?_)
  refine PyProof.Rows.callWith_builtin1 ?_ he (by rfl)
  rw [he]
  obtain ⟨cy, hcy⟩ := I.ok.has y (.inl hky)
  refine Calls.spliced_cons (wpAny_GeneratorExp_make (cl := [(y, cy)]) S.co ?_ S.cell S.dot S.kind (by omega) ?_ hs)
  · rw [closure_ok (fun z hz e => by rw [S.free z hz e]; exact ⟨cy, hcy⟩), S.clo, hcy] <;> rfl
  refine thn (hi.run pins s σ H _ I h) fun xv s1 hx => thn hx fun itv s2 ⟨it, fp, tn, J, H2, e, I2, T, st2, f2, TG, w, n, W, hw0, w0, turn⟩ => ⟨I2.nolimit, ?_⟩
  subst e
  obtain ⟨ps, hP, ht⟩ := TG
  have hPs : s2.heap.get? P = some { cls := .none, data := .fields ps } := I2.hok P _ hP
  have cd : PySem.W.CodeHd s2.heap c P := TB.code.keeps I2.bk
  have fpP : ∀ b ∈ fp, b ≠ P := fun b hb z => by
    have q := (f2 b hb).1
    rw [z, hP] at q
    cases q
  have cont : ∀ (code : Value) (h3 : Heap) (tk : Nat) (ps' : Array Value), Heap.ExtBut P s2.heap h3 → s2.heap.objs.size ≤ h3.objs.size → h3.get? P = some { cls := .none, data := .fields ps' } → (∃ more, ps' = ps ++ more) → TriplesOk ps'.toList →
      wpAny (model X.prog X.w) X.A (builtinsFor X.env.globals X.env.builtins) (fun bi s₄ => ∀ h', h'.Ns s₄.heap.objs.size (fun y => if y = ".0" then some (.ref it) else none) →
        Heap.SameBut s₄.heap.objs.size (s₄.heap.push { cls := .type "frame", data := .dict #[] }) h' → wpAny (model X.prog X.w) X.A (spliced (backTo pos (starEach [] X.env))) (fun us s' => wpAny (model X.prog X.w) X.A (call (.builtin "all") (.ref h'.objs.size :: us)) (EP X pins σ Q) X.xe s') X.xe
          { s₄ with gens := s₄.gens.push (.fresh (.compStart (.GeneratorExp elt [⟨.Name x px, iter, [], 0⟩] scope gp) 0 (.ref it) .none (genEnv scope [(y, cy)] s₄.heap.objs.size code bi X.env))), toks := s₄.toks + 1 + 1 + 1,
                    heap := h'.push { cls := .type "generator", data := .fields #[.int s₄.gens.size 0, .str "<genexpr>" (s₄.toks + 1), .str (X.env.qual ++ "<genexpr>") (s₄.toks + 1 + 1)] } }) X.xe { s2 with heap := h3, toks := tk } := by
    intro code h3 tk ps' hx hsz hP3 hmore ht3
    obtain ⟨bm, ob, e1, e2, e3, e4, e5, e6, e7, e8⟩ := TB.bm
    have keep3 : ∀ b u, b ≠ P → s2.heap.get? b = some u → h3.get? b = some u := fun b u hb e => hx b u hb e
    refine wpAny_builtinsFor (m := X.mg) (by rw [I2.ok.glob]; exact (I2.mod.glob.keeps I2.bk).extBut hx TB.gP) e1 e2 (keep3 _ _ e4 (I2.bk _ _ e5)) e6 e7 e8 ?_
    obtain ⟨more, em⟩ := hmore
    have I4 := GxR.inv_tab (more := more) (h' := h3) (g' := s2.gens) (d' := s2.drawn) (t' := tk) I2 hP (fun b u hb e => keep3 b u hb e) (by rw [← em]; exact hP3) I2.bare
    generalize hs4 : ({ s2 with heap := h3, toks := tk } : Shared) = s4 at I4 ⊢
    have h4 : s4.heap = h3 := by rw [← hs4]
    have tabbed : GxR.Tabbed P H2 (upd H2 P (.tbl (ps ++ more))) := ⟨⟨_, upd_same, by rw [← em]; exact ht3⟩, fun b hb => upd_ne hb⟩
    generalize upd H2 P (.tbl (ps ++ more)) = H4 at I4 tabbed
    have lt4 : ∀ b ∈ fp, b < s4.heap.objs.size := fun b hb => by
      obtain ⟨o, e, _⟩ := T.obj _ _ st2 b hb
      have z := Heap.lt_size e
      rw [h4]
      exact Nat.lt_of_lt_of_le z hsz
    have f4 : ∀ b ∈ fp, FpOk X pins H4 b ∧ b < s4.heap.objs.size := fun b hb => ⟨⟨(tabbed.2 b (fpP b hb)).trans (f2 b hb).1, (f2 b hb).2⟩, lt4 b hb⟩
    intro h' hn' hs'
    have sz' : h'.objs.size = s4.heap.objs.size + 1 := by rw [hs'.1, Heap.size_push]
    have kp : ∀ b o, s4.heap.get? b = some o → h'.get? b = some o := fun b o e => hs'.extBut b o (Nat.ne_of_lt (Heap.lt_size e)) (Heap.get?_push_of_some _ e)
    generalize hG : ({ cls := .type "generator", data := .fields #[.int s4.gens.size 0, .str "<genexpr>" (s4.toks + 1), .str (X.env.qual ++ "<genexpr>") (s4.toks + 1 + 1)] } : Obj) = G
    have hw4 : ∃ u, RelV w u ∧ s4.heap.IsCell cy (some u) := by
      obtain ⟨m, _, lk⟩ := I4.loc
      obtain ⟨u, ru, k⟩ := lk jy y w hN hw0 (.inr (.inl hky))
      rcases k with ⟨k, _⟩ | ⟨_, c', e', hc'⟩
      · rw [hky] at k
        cases k
      · rw [hcy] at e'
        cases e'
        exact ⟨u, ru, hc'⟩
    have IG := gen_invF (elt := elt) (cs := [⟨.Name x px, iter, [], 0⟩]) (sc := scope) (gp := gp) (it := it) (code := code) (G := G) (g' := s4.gens.push (.fresh (.compStart (.GeneratorExp elt [⟨.Name x px, iter, [], 0⟩] scope gp) 0 (.ref it) .none (gEnvF X scope y cy s4.heap.objs.size code)))) (tk := s4.toks + 1 + 1 + 1)
      I4 S hcy hw4 hr.hd f4 hn' sz' kp (I4.bare.push rfl) (fun v z => by rw [← hG] at z; cases z) (by rw [← hG] <;> rfl)
    have st5 : tn 0 (h'.push G) := T.keep _ _ _ st2 fun b hb o e => Heap.get?_push_of_some _ (kp b o (by rw [h4]; exact keep3 b o (fpP b hb) e))
    refine Calls.spliced_nil ?_
    have isG : ∀ hp : Heap, hp.get? h'.objs.size = some G → hp.IsGen h'.objs.size s4.gens.size := fun hp e => ⟨G, _, _, e, by rw [← hG], by rw [← hG], by rw [← hG]⟩
    have hpn : ∀ b ∈ fp, ∀ p ∈ [(h'.objs.size, G)], p.1 ≠ b := fun b hb p hp z => by
      obtain rfl := List.mem_singleton.mp hp
      have q : b < s4.heap.objs.size := lt4 b hb
      have z2 : h'.objs.size = b := z
      rw [← z2, sz'] at q
      exact Nat.lt_irrefl _ (Nat.lt_of_succ_lt q)
    have loop := gen_segF (elt := elt) (iter := iter) (px := px) (gp := gp) (sc := scope) (Q := Q) (tn := tn) (n := n) rfl S.co T (pg_name (X := gCxF X (.GeneratorExp elt [⟨.Name x px, iter, [], 0⟩] scope gp) it x y s4 H4 (gEnvF X scope y cy s4.heap.objs.size code) fp) (List.nodup_cons.mpr ⟨fun z => S.ne (List.mem_singleton.mp z), List.nodup_cons.mpr ⟨List.not_mem_nil, List.nodup_nil⟩⟩) rfl (.inl S.loc) (.inr S.loc))
      (hel it cy s4.heap.objs.size s4 H4 code fp) turn hpn
    refine call_function_tree (F.kind_all) (F.plain_all) (F.entry_all) (F.args_all1 _) ?_
    unfold Builtin.«all»
    refine wpAny_bind (m := oneArg "all" _) (wpAny_pure ?_)
    refine wpAny_bind (wpAny_pyIter_gen (isG _ (IG.pin (h'.objs.size, G) (List.mem_singleton.mpr rfl)).1) ?_)
    refine wpAny_pure ⟨plainId_quiet (F.plain_all_loop) _, all_runF (pn := [(h'.objs.size, G)]) (tn := tn) (fp := fp) (W := W) (Q := Q) (List.mem_singleton.mpr rfl) isG hr.hd (by omega) (fun b s' hf => ?_) n _ ⟨0, _, ⟨H4, IG, st5, fun b hb => (f4 b hb).1.1, w0 H4 tabbed⟩, Array.getElem?_push_size .., fun s' hst => ⟨rfl, gen_denF T (fun s s₀ q => loop n 0 s s₀ (Nat.sub_zero n) q) s' s' hst⟩⟩⟩
    obtain ⟨H', IY, q⟩ := hf
    have J := I4.call' (ch := fp) IY.os IY.base IY.hok IY.bare fun b hb => ⟨(f4 b hb).1.2.2.2.1, (f4 b hb).1.2.1, (f4 b hb).1.2.2.2.2.1, (f4 b hb).1.2.2.2.2.2⟩
    exact ⟨.bl b, H', J, rfl, q⟩
  cases hf : codeAmong gp ps.toList with
  | none =>
    refine wpAny_genexprCodeX hcode (cd.code hPs ht) (cd.tab hPs) hf fun c' h' tk hx hge hlt hco' _ htab' _ => ?_
    obtain ⟨o1, vs, f1, tf, fl, tg, inF, tx, tt, op, _, _, _, _, _, _, _, _, _, htr, _⟩ := hco'
    exact cont _ h' tk _ hx (Nat.le_trans hge (Nat.le_of_lt hlt)) htab'.2 ⟨_, rfl⟩ htr
  | some cv =>
    refine wpAny_genexprCode_hit hcode (cd.code hPs ht) hf ?_
    exact cont cv s2.heap s2.toks ps (Heap.ExtBut.refl _ _) (Nat.le_refl _) hPs ⟨#[], by simp⟩ ht
end KR
/-! ### fractions as numbers of the field -/
namespace KR
open PySem PySem.Spec PyProof.Rows L2
theorem Same.tup {K : PySem.W.Frag} {H H' : Hp} {a : Addr} {xs : List V} (e : Same H H') (h : SqT K H a xs) : SqT K H' a xs :=
  h.elim (fun h => .inl (h.elim (fun h => .inl (e _ _ h)) fun ⟨o, h⟩ => .inr ⟨o, e _ _ h⟩)) fun h => .inr h
theorem sqT_ty {K : PySem.W.Frag} {H : Hp} {a : Addr} {xs : List V} (h : SqT K H a xs) : TyX K H (.ref a) (.type "tuple") := by
  rcases h with (h | ⟨o, h⟩) | ⟨o, its, n, h1, h2, _⟩
  · exact .base (.tup h)
  · exact .fTuple h
  · exact .kTuple h1 h2
theorem sqT_frL {K : PySem.W.Frag} {H H' : Hp} {a p : Addr} {xs ys : List V} (h : SqT K H a xs) (hp : H p = some (.lst ys)) (f : Fr p H H') : SqT K H' a xs := by
  rcases h with (h | ⟨o, h⟩) | h
  · exact .inl (.inl (f _ _ (ne_of h hp (by intro z; cases z)) h))
  · exact .inl (.inr ⟨o, f _ _ (ne_of h hp (by intro z; cases z)) h⟩)
  · exact .inr h
theorem sqT_fr {K : PySem.W.Frag} {H H' : Hp} {a p : Addr} {n : Nat} {xs : List V} (h : SqT K H a xs) (B : BoxAt H p n) (f : Fr p H H') : SqT K H' a xs := by
  obtain ⟨i, j, k, hp, _⟩ := B
  exact sqT_frL h hp f
theorem fr_upd {p : Addr} {H : Hp} {o : HO} : Fr p H (upd H p o) := Fr.put Fr.refl
theorem BoxAt.upd {H : Hp} {p D : Addr} {n : Nat} {o : HO} (h : BoxAt H p n) (ne : D ≠ p) : BoxAt (L2.upd H D o) p n := by
  obtain ⟨a, b, c, h1, h2⟩ := h
  exact ⟨a, b, c, by rw [upd_ne ne.symm]; exact h1, h2⟩
def rq (t b : Int) : Rat := (t : Rat) / (b : Rat)
theorem rat_nd (q : Rat) : (q.num : Rat) / ((q.den : Int) : Rat) = q := by rw [← Rat.divInt_eq_div, Rat.num_divInt_den]
theorem den_ne (q : Rat) : ((q.den : Int) : Rat) ≠ 0 := by
  intro h
  have k := q.den_pos
  have h2 : ((q.den : Int) : Rat) = ((0 : Int) : Rat) := h
  have e := Rat.intCast_inj.mp h2
  omega
theorem den_ne' (q : Rat) : (q.den : Int) ≠ 0 := by
  have k := q.den_pos
  omega
theorem int_ne {b : Int} (h : b ≠ 0) : (b : Rat) ≠ 0 := fun z => h (Rat.intCast_inj.mp (z.trans (by rfl : (0 : Rat) = ((0 : Int) : Rat))))
theorem rat_low (q : Rat) : IsLow q.num q.den := ⟨by have k := q.den_pos; omega, by rw [Int.natAbs_natCast]; exact q.reduced⟩
theorem rq_cross {t b : Int} (hb : b ≠ 0) : t * ((rq t b).den : Int) = (rq t b).num * b := by
  have e := rat_nd (rq t b)
  have h1 := den_ne (rq t b)
  have h2 := int_ne hb
  refine Rat.intCast_inj.mp ?_
  rw [Rat.intCast_mul, Rat.intCast_mul]
  generalize ((rq t b).den : Int) = d at *
  generalize (rq t b).num = n at *
  unfold rq at e
  grind
theorem rq_low {t b : Int} (hb : b ≠ 0) : low t b = ((rq t b).num, ((rq t b).den : Int)) := low_eq hb (rat_low _) (rq_cross hb)
theorem cast_pos {b : Int} (h : 0 < b) : (0 : Rat) < (b : Rat) := (Rat.intCast_lt_intCast (a := 0)).mpr h
theorem cast_nn {b : Int} (h : 0 ≤ b) : (0 : Rat) ≤ (b : Rat) := (Rat.intCast_le_intCast (a := 0)).mpr h
theorem le_div {a b c : Rat} (h : 0 < c) (k : a * c ≤ b) : a ≤ b / c := Rat.not_lt.mp fun z => absurd ((Rat.div_lt_iff h).mp z) (Rat.not_lt.mpr k)
theorem div_le {a b c : Rat} (h : 0 < c) (k : b ≤ a * c) : b / c ≤ a := Rat.not_lt.mp fun z => absurd ((Rat.lt_div_iff h).mp z) (Rat.not_lt.mpr k)
theorem rq_nn {t b : Int} (ht : 0 ≤ t) (hb : 0 < b) : 0 ≤ rq t b := by
  have h1 := cast_nn ht
  have h2 := cast_pos hb
  unfold rq
  generalize (t : Rat) = x at *
  generalize (b : Rat) = y at *
  exact le_div h2 (by grind)
theorem rq_pos {t b : Int} (ht : 0 < t) (hb : 0 < b) : 0 < rq t b := by
  have h1 := cast_pos ht
  have h2 := cast_pos hb
  unfold rq
  generalize (t : Rat) = x at *
  generalize (b : Rat) = y at *
  exact (Rat.lt_div_iff h2).mpr (by grind)
theorem rq_lt_one {t b : Int} (ht : t < b) (hb : 0 < b) : rq t b < 1 := by
  have h1 := Rat.intCast_lt_intCast.mpr ht
  have h2 := cast_pos hb
  unfold rq
  generalize (t : Rat) = x at *
  generalize (b : Rat) = y at *
  exact (Rat.div_lt_iff h2).mpr (by grind)
theorem rq_le_one {t b : Int} (ht : t ≤ b) (hb : 0 < b) : rq t b ≤ 1 := by
  have h1 := Rat.intCast_le_intCast.mpr ht
  have h2 := cast_pos hb
  unfold rq
  generalize (t : Rat) = x at *
  generalize (b : Rat) = y at *
  exact div_le h2 (by grind)
theorem rq_add (p q : Rat) : rq (p.num * q.den + q.num * p.den) (p.den * q.den) = p + q := by
  have e1 := rat_nd p
  have e2 := rat_nd q
  have h1 := den_ne p
  have h2 := den_ne q
  unfold rq
  rw [Rat.intCast_add, Rat.intCast_mul, Rat.intCast_mul, Rat.intCast_mul]
  generalize ((p.den : Int) : Rat) = d at *
  generalize (p.num : Rat) = n at *
  generalize ((q.den : Int) : Rat) = d2 at *
  generalize (q.num : Rat) = n2 at *
  grind
theorem rq_sub (p q : Rat) : rq (p.num * q.den - q.num * p.den) (p.den * q.den) = p - q := by
  have e1 := rat_nd p
  have e2 := rat_nd q
  have h1 := den_ne p
  have h2 := den_ne q
  unfold rq
  rw [Rat.intCast_sub, Rat.intCast_mul, Rat.intCast_mul, Rat.intCast_mul]
  generalize ((p.den : Int) : Rat) = d at *
  generalize (p.num : Rat) = n at *
  generalize ((q.den : Int) : Rat) = d2 at *
  generalize (q.num : Rat) = n2 at *
  grind
theorem rq_mul (p q : Rat) : rq (p.num * q.num) (p.den * q.den) = p * q := by
  have e1 := rat_nd p
  have e2 := rat_nd q
  have h1 := den_ne p
  have h2 := den_ne q
  unfold rq
  rw [Rat.intCast_mul, Rat.intCast_mul]
  generalize ((p.den : Int) : Rat) = d at *
  generalize (p.num : Rat) = n at *
  generalize ((q.den : Int) : Rat) = d2 at *
  generalize (q.num : Rat) = n2 at *
  grind
theorem rq_div (p q : Rat) : rq (p.num * q.den) (p.den * q.num) = p / q := by
  have e1 := rat_nd p
  have e2 := rat_nd q
  have h1 := den_ne p
  have h2 := den_ne q
  unfold rq
  rw [Rat.intCast_mul, Rat.intCast_mul]
  generalize ((p.den : Int) : Rat) = d at *
  generalize (p.num : Rat) = n at *
  generalize ((q.den : Int) : Rat) = d2 at *
  generalize (q.num : Rat) = n2 at *
  grind
theorem rq_self (q : Rat) : rq q.num q.den = q := rat_nd q
theorem num_ne {q : Rat} (h : q ≠ 0) : q.num ≠ 0 := fun z => h (by
  have e := rat_nd q
  rw [z] at e
  rw [← e]
  grind)
theorem num_zero {q : Rat} : q.num = 0 ↔ q = 0 := ⟨fun z => Classical.byContradiction fun y => num_ne y z, fun z => by rw [z] <;> rfl⟩
theorem num_pos {q : Rat} : 0 < q.num ↔ 0 < q := by
  have k := Rat.lt_iff 0 q
  simp at k
  exact k.symm
theorem num_nn {q : Rat} : 0 ≤ q.num ↔ 0 ≤ q := Rat.num_nonneg
theorem lt_cross (p q : Rat) : (p.num * q.den < q.num * p.den) ↔ p < q := (Rat.lt_iff p q).symm
/-- top and bottom fit so many bits -/
def Sz (n : Nat) (q : Rat) : Prop := q.num.natAbs < 2 ^ n ∧ (q.den : Int).natAbs < 2 ^ n
theorem Sz.up {n m : Nat} {q : Rat} (h : Sz n q) (le : n ≤ m) : Sz m q := ⟨lt_up h.1 le, lt_up h.2 le⟩
theorem sz_rq {t b : Int} {n : Nat} (hb : b ≠ 0) (h1 : t.natAbs < 2 ^ n) (h2 : b.natAbs < 2 ^ n) : Sz n (rq t b) := by
  have k := low_lt h1 h2
  rw [rq_low hb] at k
  exact k
theorem Sz.int {z : Int} {n : Nat} (h : z.natAbs < 2 ^ n) (h0 : 0 < n) : Sz n (z : Rat) := ⟨h, Nat.lt_of_lt_of_le (by decide : (1 : Nat) < 2 ^ 1) (Nat.pow_le_pow_right (by decide) h0)⟩
theorem Sz.neg {n : Nat} {q : Rat} (h : Sz n q) : Sz n (-q) := ⟨by
  show (-q.num).natAbs < 2 ^ n
  rw [Int.natAbs_neg]
  exact h.1, h.2⟩
/-- a fraction that is read -/
def FrQ (K : PySem.W.Frag) (H : Hp) (x : Addr) (q : Rat) : Prop := SqT K H x [.int q.num, .int (q.den : Int)]
theorem FrQ.same {K : PySem.W.Frag} {H H' : Hp} {x : Addr} {q : Rat} (h : FrQ K H x q) (s : Same H H') : FrQ K H' x q := Same.tup s h
theorem FrQ.fr {K : PySem.W.Frag} {H H' : Hp} {x p : Addr} {n : Nat} {q : Rat} (h : FrQ K H x q) (B : BoxAt H p n) (f : Fr p H H') : FrQ K H' x q := sqT_fr h B f
theorem FrQ.of {K : PySem.W.Frag} {H : Hp} {x : Addr} {q : Rat} (h : H x = some (.tup [.int q.num, .int (q.den : Int)])) : FrQ K H x q := SqT.of h
theorem FrQ.int {K : PySem.W.Frag} {H : Hp} {x : Addr} {z : Int} (h : H x = some (.tup [.int z, .int 1])) : FrQ K H x (z : Rat) := SqT.of h
/-- a juice that is read -/
def JuQ (K : PySem.W.Frag) (H : Hp) (x : Addr) (s w : Rat) : Prop := ∃ a b, SqT K H x [.ref a, .ref b] ∧ FrQ K H a s ∧ FrQ K H b w
theorem JuQ.same {K : PySem.W.Frag} {H H' : Hp} {x : Addr} {s w : Rat} (h : JuQ K H x s w) (e : Same H H') : JuQ K H' x s w := by
  obtain ⟨a, b, h1, h2, h3⟩ := h
  exact ⟨a, b, Same.tup e h1, h2.same e, h3.same e⟩
theorem JuQ.fr {K : PySem.W.Frag} {H H' : Hp} {x p : Addr} {n : Nat} {s w : Rat} (h : JuQ K H x s w) (B : BoxAt H p n) (f : Fr p H H') : JuQ K H' x s w := by
  obtain ⟨a, b, h1, h2, h3⟩ := h
  exact ⟨a, b, sqT_fr h1 B f, h2.fr B f, h3.fr B f⟩
theorem JuQ.new {K : PySem.W.Frag} {H : Hp} {x a b : Addr} {s w : Rat} (h : H x = some (.tup [.ref a, .ref b])) (ha : FrQ K H a s) (hb : FrQ K H b w) : JuQ K H x s w := ⟨a, b, SqT.of h, ha, hb⟩
/-- a new pair of two numbers' lowest terms -/
def sp_lowQ (K : PySem.W.Frag) : Sp := fun vs H Q _ => ∃ (t b : Int) (n : Nat), vs = [.int t, .int b] ∧ b ≠ 0 ∧ t.natAbs < 2 ^ n ∧ b.natAbs < 2 ^ n ∧ n ≤ 2000 ∧ ∀ p H', Same H H' → H p = none → FrQ K H' p (rq t b) → Sz n (rq t b) → Q (.ref p) H'
theorem lowQ {K : PySem.W.Frag} {vs : List V} {H : Hp} {Q : VK} {E : XK} (h : sp_lowQ K vs H Q E) : sp_low vs H Q E := by
  obtain ⟨t, b, n, e, hb, h1, h2, hn, q⟩ := h
  refine ⟨t, b, e, hb, lt_up h1 hn, lt_up h2 hn, fun p H' s hp h' => q p H' s hp ?_ (sz_rq hb h1 h2)⟩
  rw [rq_low hb] at h'
  exact .of h'
/-- two fractions in, one out -/
def sp_q2 (K : PySem.W.Frag) (f : Rat → Rat → Rat) (ok : Rat → Rat → Prop) : Sp := fun vs H Q _ => ∃ (x y : Addr) (p q : Rat) (m n : Nat), vs = [.ref x, .ref y] ∧ FrQ K H x p ∧ FrQ K H y q ∧ Sz m p ∧ Sz n q ∧ m + n ≤ 1900 ∧ ok p q ∧
  ∀ z H', Same H H' → H z = none → FrQ K H' z (f p q) → Sz (m + n + 1) (f p q) → Q (.ref z) H'
def sp_less (K : PySem.W.Frag) : Sp := fun vs H Q _ => ∃ (x y : Addr) (p q : Rat), vs = [.ref x, .ref y] ∧ FrQ K H x p ∧ FrQ K H y q ∧ Sz 1900 p ∧ Sz 1900 q ∧ Q (.bl (decide (p < q))) H
theorem mulZ {i j : Int} {a b : Nat} (ha : i.natAbs < 2 ^ a) (hb : j.natAbs < 2 ^ b) (h : a + b ≤ 100000) : IntMulOk i j :=
  mulW (lt_up ha (by omega : a ≤ a + 1)) (lt_up hb (by omega : b ≤ b + 1)) (by omega) (by omega) (by omega)
/-! data of the law's own making, tuples of the written part among them -/
inductive Dk (K : PySem.W.Frag) (H : Hp) : Nat → V → PyData → Prop
  | non (n : Nat) : Dk K H (n + 1) .non .none
  | bl (n : Nat) (b : Bool) : Dk K H (n + 1) (.bl b) (.bool b)
  | int (n : Nat) (i : Int) : Dk K H (n + 1) (.int i) (.int i)
  | str (n : Nat) (x : Str) (ok : PyData.canLay0 (.str x) = true) : Dk K H (n + 1) (.str x) (.str x)
  | lst {n : Nat} {a : Addr} {xs : List V} {ds : List PyData} : H a = some (.lst xs) → xs.length = ds.length → xs.length ≤ 100000 → (∀ (i : Nat) (x : V) (d : PyData), xs[i]? = some x → ds[i]? = some d → Dk K H n x d) → Dk K H (n + 1) (.ref a) (.list ds)
  | tup {n : Nat} {a : Addr} {xs : List V} {ds : List PyData} : SqT K H a xs → xs.length = ds.length → xs.length ≤ 100000 → (∀ (i : Nat) (x : V) (d : PyData), xs[i]? = some x → ds[i]? = some d → Dk K H n x d) → Dk K H (n + 1) (.ref a) (.tuple ds)
theorem Dk.same {K : PySem.W.Frag} {H H' : Hp} (s : Same H H') : ∀ {n : Nat} {v : V} {d : PyData}, Dk K H n v d → Dk K H' n v d := by
  intro n v d h
  induction h with
  | non n => exact .non n
  | bl n b => exact .bl n b
  | int n i => exact .int n i
  | str n x ok => exact .str n x ok
  | lst h1 h2 h3 _ ih => exact .lst (s _ _ h1) h2 h3 ih
  | tup h1 h2 h3 _ ih => exact .tup (Same.tup s h1) h2 h3 ih
theorem Dk.up {K : PySem.W.Frag} {H : Hp} {n m : Nat} {v : V} {d : PyData} (h : Dk K H n v d) : n ≤ m → Dk K H m v d := by
  intro le
  induction h generalizing m with
  | non n => obtain ⟨k, rfl⟩ : ∃ k, m = k + 1 := ⟨m - 1, by omega⟩; exact .non k
  | bl n b => obtain ⟨k, rfl⟩ : ∃ k, m = k + 1 := ⟨m - 1, by omega⟩; exact .bl k b
  | int n i => obtain ⟨k, rfl⟩ : ∃ k, m = k + 1 := ⟨m - 1, by omega⟩; exact .int k i
  | str n x ok => obtain ⟨k, rfl⟩ : ∃ k, m = k + 1 := ⟨m - 1, by omega⟩; exact .str k x ok
  | lst h1 h2 h3 _ ih => obtain ⟨k, rfl⟩ : ∃ k, m = k + 1 := ⟨m - 1, by omega⟩; exact .lst h1 h2 h3 fun i x d a b => ih i x d a b (by omega)
  | tup h1 h2 h3 _ ih => obtain ⟨k, rfl⟩ : ∃ k, m = k + 1 := ⟨m - 1, by omega⟩; exact .tup h1 h2 h3 fun i x d a b => ih i x d a b (by omega)
/-- rows of data beside their values -/
def DkAll (K : PySem.W.Frag) (H : Hp) (n : Nat) (xs : List V) (ds : List PyData) : Prop := xs.length = ds.length ∧ ∀ (i : Nat) (x : V) (d : PyData), xs[i]? = some x → ds[i]? = some d → Dk K H n x d
theorem DkAll.nil {K : PySem.W.Frag} {H : Hp} {n : Nat} : DkAll K H n [] [] := ⟨rfl, fun i x d h => by simp at h⟩
theorem DkAll.cons {K : PySem.W.Frag} {H : Hp} {n : Nat} {x : V} {d : PyData} {xs : List V} {ds : List PyData} (h : Dk K H n x d) (t : DkAll K H n xs ds) : DkAll K H n (x :: xs) (d :: ds) :=
  ⟨by rw [List.length_cons, List.length_cons, t.1], fun i u v hu hv => match i, hu, hv with
    | 0, hu, hv => by cases hu; cases hv; exact h
    | i + 1, hu, hv => t.2 i u v hu hv⟩
theorem DkAll.tup {K : PySem.W.Frag} {H : Hp} {n : Nat} {xs : List V} {ds : List PyData} {a : Addr} (t : DkAll K H n xs ds) (h : SqT K H a xs) (z : Nat.ble xs.length 100000 = true := by rfl) : Dk K H (n + 1) (.ref a) (.tuple ds) := .tup h t.1 (Nat.le_of_ble_eq_true z) t.2
theorem DkAll.lst {K : PySem.W.Frag} {H : Hp} {n : Nat} {xs : List V} {ds : List PyData} {a : Addr} (t : DkAll K H n xs ds) (h : H a = some (.lst xs)) (z : Nat.ble xs.length 100000 = true := by rfl) : Dk K H (n + 1) (.ref a) (.list ds) := .lst h t.1 (Nat.le_of_ble_eq_true z) t.2
/-- the data of a fraction, of a juice -/
def dq (q : Rat) : PyData := .tuple [.int q.num, .int (q.den : Int)]
def dj (s w : Rat) : PyData := .tuple [dq s, dq w]
theorem FrQ.dk {K : PySem.W.Frag} {H : Hp} {x : Addr} {q : Rat} (h : FrQ K H x q) (n : Nat := 0) : Dk K H (n + 2) (.ref x) (dq q) := DkAll.tup (.cons (.int _ _) (.cons (.int _ _) .nil)) h
theorem JuQ.dk {K : PySem.W.Frag} {H : Hp} {x : Addr} {s w : Rat} (h : JuQ K H x s w) (n : Nat := 0) : Dk K H (n + 3) (.ref x) (dj s w) := by
  obtain ⟨a, b, h1, h2, h3⟩ := h
  exact DkAll.tup (.cons (h2.dk n) (.cons (h3.dk n) .nil)) h1
/-- forty figures -/
theorem b133 {n : Nat} (h : n < 10 ^ 40) : n < 2 ^ 133 := Nat.lt_trans h (by decide)
/-- a fraction or None -/
def OQ (K : PySem.W.Frag) (H : Hp) (v : V) : Option Rat → Prop
  | none => v = .non
  | some q => ∃ x, v = .ref x ∧ FrQ K H x q
theorem OQ.same {K : PySem.W.Frag} {H H' : Hp} {v : V} {o : Option Rat} (h : OQ K H v o) (e : Same H H') : OQ K H' v o := by
  cases o with
  | none => exact h
  | some q =>
    obtain ⟨x, e1, h1⟩ := h
    exact ⟨x, e1, h1.same e⟩
def oq : Option Rat → PyData
  | none => .none
  | some q => dq q
theorem OQ.dk {K : PySem.W.Frag} {H : Hp} {v : V} {o : Option Rat} (h : OQ K H v o) (n : Nat := 0) : Dk K H (n + 2) v (oq o) := by
  cases o with
  | none => rw [show v = .non from h]; exact .non _
  | some q =>
    obtain ⟨x, e1, h1⟩ := h
    rw [e1]
    exact h1.dk n
/-- the strength of a juice -/
def stren (s w : Rat) : Option Rat := if s + w = 0 then none else some (s / (s + w))
theorem stren_part {s w t : Rat} (h : t ≠ 0) : stren (s * t) (w * t) = stren s w := by
  unfold stren
  by_cases c : s + w = 0
  · rw [if_pos c, if_pos (by grind)]
  · rw [if_neg c, if_neg (by grind)]
    congr 1
    grind
theorem stren_more {s w t : Rat} (h : 0 ≤ t) : stren (s + s * t) (w + w * t) = stren s w := by
  have e1 : s + s * t = s * (1 + t) := by grind
  have e2 : w + w * t = w * (1 + t) := by grind
  rw [e1, e2]
  exact stren_part (by grind)
theorem strength_between {s w x y : Rat} (hs : 0 ≤ s) (hw : 0 ≤ w) (hx : 0 ≤ x) (hy : 0 ≤ y) (h1 : s + w ≠ 0) (h2 : x + y ≠ 0) (le : s / (s + w) ≤ x / (x + y)) :
    s / (s + w) ≤ (s + x) / (s + x + (w + y)) ∧ (s + x) / (s + x + (w + y)) ≤ x / (x + y) := by
  have p1 : 0 < s + w := by grind
  have p2 : 0 < x + y := by grind
  have p3 : 0 < s + x + (w + y) := by grind
  generalize ea : s / (s + w) = a at *
  generalize eb : x / (x + y) = b at *
  have sa : s = a * (s + w) := by grind
  have xb : x = b * (x + y) := by grind
  have d : 0 ≤ b - a := by grind
  constructor
  · refine le_div p3 ?_
    have k := Rat.mul_nonneg d (Rat.le_of_lt p2)
    grind
  · refine div_le p3 ?_
    have k := Rat.mul_nonneg d (Rat.le_of_lt p1)
    grind
theorem is_zero {q : Rat} : decide (q.num = 0 ∧ (q.den : Int) = 1) = decide (q = 0) := by
  rw [decide_eq_decide]
  constructor
  · rintro ⟨h, _⟩
    exact num_zero.mp h
  · rintro rfl
    exact ⟨rfl, rfl⟩
/-- boiling -/
def wat (s u : Rat) : Rat := s / u - s
def boil (s w : Rat) (f : Int) (u h : Rat) : Rat := if wat s u < w then (if w - f * h < wat s u then wat s u else w - f * h) else w
theorem rq_wat (s u : Rat) (hu : u ≠ 0) : rq (s.num * ((u.den : Int) - u.num)) (s.den * u.num) = wat s u := by
  have e1 := rat_nd s
  have e2 := rat_nd u
  have h1 := den_ne s
  have h2 := den_ne u
  have h3 := int_ne (num_ne hu)
  unfold rq wat
  rw [Rat.intCast_mul, Rat.intCast_mul, Rat.intCast_sub]
  generalize ((s.den : Int) : Rat) = d at *
  generalize (s.num : Rat) = n at *
  generalize ((u.den : Int) : Rat) = d2 at *
  generalize (u.num : Rat) = n2 at *
  rw [← e1, ← e2]
  grind
theorem Sz.add {m n : Nat} {p q : Rat} (h : Sz m p) (k : Sz n q) : Sz (m + n + 1) (p + q) := by
  rw [← rq_add]
  exact sz_rq (Int.mul_ne_zero (den_ne' p) (den_ne' q)) (lt_up (add_lt (wide_lt h.1 k.2) (lt_up (wide_lt k.1 h.2) (by omega : n + m ≤ m + n))) (by omega)) (lt_up (wide_lt h.2 k.2) (by omega))
theorem Sz.sub {m n : Nat} {p q : Rat} (h : Sz m p) (k : Sz n q) : Sz (m + n + 1) (p - q) := by
  rw [← rq_sub]
  exact sz_rq (Int.mul_ne_zero (den_ne' p) (den_ne' q)) (lt_up (sub_lt (wide_lt h.1 k.2) (lt_up (wide_lt k.1 h.2) (by omega : n + m ≤ m + n))) (by omega)) (lt_up (wide_lt h.2 k.2) (by omega))
theorem Sz.mul {m n : Nat} {p q : Rat} (h : Sz m p) (k : Sz n q) : Sz (m + n) (p * q) := by
  rw [← rq_mul]
  exact sz_rq (Int.mul_ne_zero (den_ne' p) (den_ne' q)) (wide_lt h.1 k.1) (wide_lt h.2 k.2)
theorem Sz.wat {m n : Nat} {s u : Rat} (h : Sz m s) (k : Sz n u) (hu : u ≠ 0) : Sz (m + n + 1) (wat s u) := by
  rw [← rq_wat s u hu]
  exact sz_rq (Int.mul_ne_zero (den_ne' s) (num_ne hu)) (lt_up (wide_lt h.1 (sub_lt k.2 k.1)) (by omega)) (lt_up (wide_lt h.2 k.1) (by omega))
theorem Sz.boil {a b c n N : Nat} {s w u h : Rat} {f : Int} (zs : Sz a s) (zu : Sz n u) (hu : u ≠ 0) (zw : Sz b w) (zh : Sz c h) (hf : f.natAbs < 2 ^ 14) (h1 : a + n + 1 ≤ N) (h2 : b + (14 + c) + 1 ≤ N) : Sz N (KR.boil s w f u h) := by
  unfold KR.boil
  split
  · split
    · exact (Sz.wat zs zu hu).up h1
    · exact (Sz.sub zw (Sz.mul (Sz.int hf (by decide)) zh)).up h2
  · exact zw.up (by omega)
theorem boil_zero {s w u : Rat} {f : Int} : boil s w f u 0 = w := by
  unfold boil
  rw [Rat.mul_zero]
  split <;> grind
theorem boil_boil {s w u h k : Rat} {f : Int} (hf : 0 ≤ f) (hh : 0 ≤ h) (hk : 0 ≤ k) : boil s (boil s w f u h) f u k = boil s w f u (h + k) := by
  have f0 := cast_nn hf
  have a0 := Rat.mul_nonneg f0 hh
  have b0 := Rat.mul_nonneg f0 hk
  unfold boil
  rw [Rat.mul_add]
  generalize (f : Rat) * h = a at *
  generalize (f : Rat) * k = b at *
  generalize wat s u = L
  grind
theorem boil_fire {s w u h : Rat} {f g : Int} (hf : f ≤ g) (hh : 0 ≤ h) : boil s w g u h ≤ boil s w f u h := by
  have k := Rat.mul_nonneg (cast_nn (show 0 ≤ g - f by omega)) hh
  rw [Rat.intCast_sub] at k
  unfold boil
  generalize wat s u = L
  have e : ((g : Rat) - (f : Rat)) * h = (g : Rat) * h - (f : Rat) * h := by grind
  rw [e] at k
  generalize (f : Rat) * h = a at *
  generalize (g : Rat) * h = b at *
  grind
theorem boil_two {s w u h : Rat} {f : Int} : boil (s + s) (w + w) (2 * f) u h = boil s w f u h + boil s w f u h := by
  unfold boil
  have e : wat (s + s) u = wat s u + wat s u := by
    unfold wat
    grind
  rw [e, Rat.intCast_mul]
  have e2 : ((2 : Int) : Rat) * (f : Rat) * h = (f : Rat) * h + (f : Rat) * h := by
    have e3 : ((2 : Int) : Rat) = 2 := rfl
    rw [e3]
    grind
  rw [e2]
  generalize (f : Rat) * h = a at *
  generalize wat s u = L at *
  grind
theorem Sz.div {m n : Nat} {p q : Rat} (h : Sz m p) (k : Sz n q) (hq : q ≠ 0) : Sz (m + n) (p / q) := by
  rw [← rq_div]
  exact sz_rq (Int.mul_ne_zero (den_ne' p) (num_ne hq)) (wide_lt h.1 k.2) (wide_lt h.2 k.1)
theorem rq_divi (r : Rat) (f : Int) : rq r.num (r.den * f) = r / (f : Rat) := by
  have e := rq_div r (f : Rat)
  rw [← e]
  show rq r.num (r.den * f) = rq (r.num * 1) (r.den * f)
  rw [Int.mul_one]
theorem FrQ.dp {K : PySem.W.Frag} {H : Hp} {x : Addr} {q : Rat} (h : FrQ K H x q) : Dp K H (.ref x) (dq q) := .tup h (.cons (.int _) (.cons (.int _) .nil))
theorem JuQ.dp {K : PySem.W.Frag} {H : Hp} {x : Addr} {s w : Rat} (h : JuQ K H x s w) : Dp K H (.ref x) (dj s w) := by
  obtain ⟨a, b, h1, h2, h3⟩ := h
  exact .tup h1 (.cons h2.dp (.cons h3.dp .nil))
theorem eqv_dq (a b : Rat) : PyData.eqv (dq a) (dq b) = decide (a = b) := by
  refine eqv_pair.trans ?_
  rw [decide_eq_decide]
  constructor
  · rintro ⟨h1, h2⟩
    exact Rat.ext h1 (by omega)
  · rintro rfl
    exact ⟨rfl, rfl⟩
theorem OQ.dp {K : PySem.W.Frag} {H : Hp} {v : V} {o : Option Rat} (h : OQ K H v o) : Dp K H v (oq o) := by
  cases o with
  | none => rw [show v = .non from h]; exact .non
  | some q =>
    obtain ⟨x, e1, h1⟩ := h
    rw [e1]
    exact h1.dp
theorem oq_fit (o : Option Rat) : PyData.canLay0 (oq o) = true ∧ PyData.depth (oq o) ≤ 60 := by
  cases o with
  | none => exact ⟨rfl, by decide⟩
  | some q => exact ⟨rfl, by show 1 ≤ 60; decide⟩
/-- when a juice is ready -/
def ready (s w : Rat) (f : Int) (u : Rat) : Option Rat := if s = 0 then none else if wat s u < w then (if f = 0 then none else some ((w - wat s u) / (f : Rat))) else some 0
theorem wat_nn {s u : Rat} (hs : 0 ≤ s) (u0 : 0 < u) (u1 : u < 1) : 0 ≤ wat s u := by
  have k := Rat.mul_nonneg hs (show 0 ≤ 1 - u by grind)
  have h : s ≤ s / u := le_div u0 (by grind)
  unfold wat
  grind
theorem on_way {s w u : Rat} {f : Int} (hs : 0 < s) (u0 : 0 < u) (u1 : u < 1) (hf : 0 < f) (lt : wat s u < w) {t : Rat} (et : t = (w - wat s u) / (f : Rat)) :
    boil s w f u t = wat s u ∧ stren s (wat s u) = some u ∧ 0 < t ∧ ∀ h : Rat, 0 < h → (boil s w f u (t + h) = wat s u ∧ (h ≤ 1 → ∃ q, stren s (boil s w f u (t * h)) = some q ∧ (q = u ↔ h = 1) ∧ ready s (boil s w f u (t * h)) f u = some (t - t * h))) := by
  have f0 := cast_pos hf
  have fne : (f : Rat) ≠ 0 := by grind
  have ft : (f : Rat) * t = w - wat s u := by rw [et]; grind
  have wn := wat_nn (Rat.le_of_lt hs) u0 u1
  have tp : 0 < t := by
    rw [et]
    exact (Rat.lt_div_iff f0).mpr (by grind)
  refine ⟨?_, ?_, tp, fun h hh => ⟨?_, fun h1 => ?_⟩⟩
  · unfold boil
    rw [ft]
    grind
  · have e : s + wat s u = s / u := by
      unfold wat
      grind
    have ne : s / u ≠ 0 := by grind
    unfold stren
    rw [e, if_neg ne]
    congr 1
    grind
  · have k := Rat.mul_pos f0 hh
    unfold boil
    rw [Rat.mul_add, ft]
    grind
  · have d : 0 < w - wat s u := by grind
    have k := Rat.mul_nonneg (Rat.le_of_lt d) (show 0 ≤ 1 - h by grind)
    have e : (f : Rat) * (t * h) = (w - wat s u) * h := by rw [← ft]; grind
    have eb : boil s w f u (t * h) = w - (w - wat s u) * h := by
      unfold boil
      rw [e]
      grind
    have xge : wat s u ≤ w - (w - wat s u) * h := by grind
    have sx : s + (w - (w - wat s u) * h) ≠ 0 := by grind
    rw [eb]
    refine ⟨s / (s + (w - (w - wat s u) * h)), if_neg sx, ⟨fun q => ?_, fun q => ?_⟩, ?_⟩
    · have q2 : s = u * (s + (w - (w - wat s u) * h)) := by grind
      have q3 : wat s u = w - (w - wat s u) * h := by
        unfold wat at *
        grind
      have q4 : (w - wat s u) * (1 - h) = 0 := by grind
      have q5 : 1 - h = 0 := by
        rcases Rat.mul_eq_zero.mp q4 with z | z
        · grind
        · exact z
      grind
    · rw [q]
      have e2 : s + (w - (w - wat s u) * 1) = s / u := by
        unfold wat
        grind
      rw [e2]
      grind
    · unfold ready
      rw [if_neg (by grind)]
      by_cases c : wat s u < w - (w - wat s u) * h
      · rw [if_pos c, if_neg (by omega)]
        congr 1
        rw [et]
        grind
      · rw [if_neg c]
        have q4 : (w - wat s u) * (1 - h) = 0 := by grind
        have q5 : 1 - h = 0 := by
          rcases Rat.mul_eq_zero.mp q4 with z | z
          · grind
          · exact z
        have q6 : h = 1 := by grind
        rw [q6]
        congr 1
        grind
/-- a thing is not among those of a tuple -/
def rNoTup (K : PySem.W.Frag) : R2 := fun x y H Q => ∃ d ds, Dp K H x d ∧ Dp K H y (.tuple ds) ∧ PyData.canLay0 d = true ∧ PyData.canLayAll0 ds = true ∧ PyData.depth d ≤ 60 ∧ Q (.bl (!ds.any fun z => PyData.eqv z d)) H
theorem notTup {X : Cx} {K : PySem.W.Frag} (hK : X.K = K) (room : X.A.units + 64 < cLine) : OpR X (compareOp .NotIn) (rNoTup K) := by
  subst hK
  intro pn s0 σ H x y v1 v2 Q I a1 a2 h
  obtain ⟨d, ds, h1, h2, h3, h4, h5, q⟩ := h
  obtain ⟨as1, r1⟩ := Dp.reads I d x v1 h1 a1
  obtain ⟨as2, r2⟩ := Dp.reads I (.tuple ds) y v2 h2 a2
  exact SeqAt.notIn_tuple_reads r2 r1 h4 h3 (by omega) ⟨.bl _, H, I, rfl, q⟩
/-- a juice in, a juice and a share in, two juices in -/
def sp_j2 (K : PySem.W.Frag) : Sp := fun vs H Q _ => ∃ (x y : Addr) (s w s' w' : Rat) (m n : Nat), vs = [.ref x, .ref y] ∧ JuQ K H x s w ∧ JuQ K H y s' w' ∧ Sz m s ∧ Sz m w ∧ Sz n s' ∧ Sz n w' ∧ m + n ≤ 1900 ∧
  ∀ z H', Same H H' → JuQ K H' z (s + s') (w + w') → Sz (m + n + 1) (s + s') → Sz (m + n + 1) (w + w') → Q (.ref z) H'
def sp_jt (K : PySem.W.Frag) (f : Rat → Rat) : Sp := fun vs H Q _ => ∃ (x y : Addr) (s w t : Rat) (m n : Nat), vs = [.ref x, .ref y] ∧ JuQ K H x s w ∧ FrQ K H y t ∧ Sz m s ∧ Sz m w ∧ Sz n t ∧ m + n ≤ 900 ∧ n ≤ 400 ∧
  ∀ z H', Same H H' → JuQ K H' z (s * f t) (w * f t) → Sz (m + n + 10) (s * f t) → Sz (m + n + 10) (w * f t) → Q (.ref z) H'
def sp_vol (K : PySem.W.Frag) : Sp := fun vs H Q _ => ∃ (x : Addr) (s w : Rat) (m : Nat), vs = [.ref x] ∧ JuQ K H x s w ∧ Sz m s ∧ Sz m w ∧ m ≤ 900 ∧ ∀ z H', Same H H' → FrQ K H' z (s + w) → Sz (m + m + 1) (s + w) → Q (.ref z) H'
def sp_str (K : PySem.W.Frag) : Sp := fun vs H Q _ => ∃ (x : Addr) (s w : Rat) (m : Nat), vs = [.ref x] ∧ JuQ K H x s w ∧ Sz m s ∧ Sz m w ∧ m ≤ 600 ∧ ∀ v H', Same H H' → OQ K H' v (stren s w) → (∀ q, stren s w = some q → Sz (3 * m + 2) q) → Q v H'
end KR
/-! ### walks over things that may be lists or tuples: for, enumerate, zip -/
namespace KR
open PySem PySem.Spec PyProof.Rows L2
/-- a list, or a tuple -/
def SqB (K : PySem.W.Frag) (H : Hp) (a : Addr) (xs : List V) : Bool → Prop
  | true => SqL K H a xs
  | false => SqT K H a xs
def ItB (h : Heap) (it a : Addr) (i : Nat) : Bool → Prop
  | true => h.IsListIter it a i
  | false => h.IsTupleIter it a i
def IsB (h : Heap) (a : Addr) (items : Array Value) : Bool → Prop
  | true => h.IsList a items
  | false => h.IsTuple a items
def objB (a : Addr) : Bool → Obj
  | true => { cls := .type "list_iterator", data := .fields #[.ref a, .int 0 0] }
  | false => { cls := .type "tuple_iterator", data := .fields #[.ref a, .int 0 0] }
theorem SqB.same {K : PySem.W.Frag} {H H' : Hp} {a : Addr} {xs : List V} {b : Bool} (h : SqB K H a xs b) (s : Same H H') : SqB K H' a xs b := by
  cases b with
  | true => exact s.seq h
  | false => exact Same.tup s h
theorem draws_b {prog : Program} {w : World} {A : Around} (hh : A.handled = none) (it a : Addr) (ne : a ≠ it) (items : Array Value) (b : Bool) :
    Draws prog w A it [it, a] items.size (fun i v => items[i]? = some v) (fun i h => ItB h it a i b ∧ IsB h a items b) := by
  cases b with
  | true => exact Draws.list hh it a ne items
  | false => exact Draws.tuple hh it a ne items
theorem begins_b (a : Addr) (items : Array Value) (b : Bool) : Begins (.ref a) (objB a b) fun h => IsB h a items b := by
  cases b with
  | true => exact begins_list a items
  | false => exact begins_tuple a items
theorem first_b {h : Heap} {it a : Addr} {b : Bool} (e : h.get? it = some (objB a b)) : ItB h it a 0 b := by
  cases b with
  | true => exact ⟨_, e, rfl, rfl⟩
  | false => exact ⟨_, e, rfl, rfl⟩
theorem ItB.obj {h : Heap} {it a : Addr} {i : Nat} {b : Bool} (t : ItB h it a i b) : ∃ o, h.get? it = some o ∧ ∀ v, o.data ≠ .cell v := by
  cases b with
  | true =>
    obtain ⟨o, e, _, d⟩ := t
    exact ⟨o, e, fun v q => by rw [d] at q; cases q⟩
  | false =>
    obtain ⟨o, e, _, d⟩ := t
    exact ⟨o, e, fun v q => by rw [d] at q; cases q⟩
theorem ItB.keep {h h' : Heap} {it a : Addr} {i : Nat} {b : Bool} (t : ItB h it a i b) (k : ∀ o, h.get? it = some o → h'.get? it = some o) : ItB h' it a i b := by
  cases b with
  | true =>
    obtain ⟨o, e, r⟩ := t
    exact ⟨o, k _ e, r⟩
  | false =>
    obtain ⟨o, e, r⟩ := t
    exact ⟨o, k _ e, r⟩
section
variable {X : Cx} {pins : List (Addr × Obj)} {σ : L2.St} {H : Hp} {s : Shared} {a : Addr} {xs ys : List V} {b : Bool}
theorem inv_b (I : Inv X pins σ H s) (h : SqB X.K H a xs b) : ∃ its : List Value, Vals xs its ∧ IsB s.heap a its.toArray b ∧ a < s.heap.objs.size := by
  cases b with
  | true =>
    obtain ⟨its, rv, p, _⟩ := I.list h
    exact ⟨its, rv, p.isList, p.lt⟩
  | false =>
    obtain ⟨its, rv, p, _⟩ := I.tuple h
    obtain ⟨o, e, _⟩ := id p
    exact ⟨its, rv, p, Heap.lt_size e⟩
theorem inj_b (I : Inv X pins σ H s) (h : SqB X.K H a xs b) (k : SqB X.K H a ys b) : xs = ys := by
  cases b with
  | true => exact I.list_inj h k
  | false => exact I.tuple_inj h k
end
/-- pairs of what two things hold -/
def ItzB (K : PySem.W.Frag) (a b : Addr) (p q : Bool) : It :=
  ⟨fun i H => ∃ (xs ys : List V) (x y : V), SqB K H a xs p ∧ SqB K H b ys q ∧ xs[i]? = some x ∧ ys[i]? = some y,
    fun i H v H' => ∃ T x y, v = .ref T ∧ H T = none ∧ H' = upd H T (.tup [x, y]) ∧ (∀ xs, SqB K H a xs p → xs[i]? = some x) ∧ ∀ ys, SqB K H b ys q → ys[i]? = some y,
    fun i H => ∃ xs ys : List V, SqB K H a xs p ∧ SqB K H b ys q ∧ xs.length = i ∧ ys.length = i⟩
theorem turn_zipB {P : Program} {w : World} {K : PySem.W.Frag} {elts : List Expr} {kk : Nat} {tpos : Pos} {a b : Addr} {p q : Bool} {N : Nat} (la : a < N) (lb : b < N) :
    Turn P w K (.Tuple elts kk tpos) (ItzB K a b p q) [N + 4, N + 2, N + 3, N, N + 1] (N + 4) (fun i h => IsZip h (N + 4) (N + 2) (N + 3) .none ∧ IsTupOf2 h (N + 2) (.ref N) (.ref (N + 1)) ∧ (∃ x y, IsTupOf2 h (N + 3) x y) ∧ ItB h N a i p ∧ ItB h (N + 1) b i q) where
  mem := List.mem_cons_self
  obj := fun i h st c hc => by
    obtain ⟨st1, st2, ⟨x, y, st3⟩, st4, st5⟩ := st
    have cs : c = N + 4 ∨ c = N + 2 ∨ c = N + 3 ∨ c = N ∨ c = N + 1 := by simpa using hc
    rcases cs with rfl | rfl | rfl | rfl | rfl
    · exact ⟨_, st1, nofun⟩
    · exact ⟨_, st2, nofun⟩
    · exact ⟨_, st3, nofun⟩
    · exact st4.obj
    · exact st5.obj
  keep := fun i h h' st k => by
    obtain ⟨st1, st2, ⟨x, y, st3⟩, st4, st5⟩ := st
    exact ⟨k _ (by simp) _ st1, k _ (by simp) _ st2, ⟨x, y, k _ (by simp) _ st3⟩, st4.keep (k _ (by simp)), st5.keep (k _ (by simp))⟩
  item := by
    intro X hP hw hK hc i pins s σ H E I hf st hg
    subst hP hw hK
    obtain ⟨st1, st2, ⟨x0, y0, st3⟩, st4, st5⟩ := st
    obtain ⟨xs, ys, x, y, sx, sy, gx, gy⟩ := hg
    obtain ⟨its, rv, ia, _⟩ := inv_b I sx
    obtain ⟨its2, rv2, ib, _⟩ := inv_b I sy
    obtain ⟨u, hu, ru⟩ := rv.get gx
    obtain ⟨u2, hu2, ru2⟩ := rv2.get gy
    have calm : X.A.in1.handled = none := I.ok.hd hc
    have S : ZipSep2 (N + 4) (N + 2) (N + 3) N (N + 1) [N, a] [N + 1, b] := zip_sep2 (fun c z => by rw [List.mem_singleton.mp z]; exact la) (fun c z => by rw [List.mem_singleton.mp z]; exact lb)
    have zlt : N + 4 < s.heap.objs.size := Heap.lt_size st1
    have i1 : i < its.toArray.size := by
      rw [List.size_toArray]
      exact (List.getElem?_eq_some_iff.mp hu).1
    have i2 : i < its2.toArray.size := by
      rw [List.size_toArray]
      exact (List.getElem?_eq_some_iff.mp hu2).1
    refine wpAny_pyNext_zipD2_item S (draws_b calm N a (Nat.ne_of_lt la) its.toArray p) (draws_b calm (N + 1) b (Nat.ne_of_lt (Nat.lt_succ_of_lt lb)) its2.toArray q) st1 st2 st3 ⟨st4, ia⟩ ⟨st5, ib⟩ i1 i2 fun v1 v2 h' tk p1 p2 z' TO' t1' t2' hT hsz hk => ?_
    have p1' : its.toArray[i]? = some v1 := p1
    have p2' : its2.toArray[i]? = some v2 := p2
    rw [List.getElem?_toArray, hu] at p1'
    rw [List.getElem?_toArray, hu2] at p2'
    obtain rfl := Option.some.inj p1'
    obtain rfl := Option.some.inj p2'
    refine ⟨_, rfl, wpAny_letOwnedTupleGo_zip (s := { s with heap := h', toks := tk }) z' fun h'' z'' sb => ?_⟩
    have hT2 : h''.get? s.heap.objs.size = some { cls := .type "tuple", data := .seq #[u, u2] } := (sb.2 _ (Nat.ne_of_gt zlt)).trans hT
    have new : ObjOk X.prog X.w (upd H s.heap.objs.size (.tup [x, y])) h'' s.heap.objs.size (.tup [x, y]) :=
      ⟨small (by show 2 ≤ 100000; decide), [u, u2], .cons ru (.cons ru2 .nil), ⟨_, hT2, rfl, _, rfl⟩⟩
    have out : ∀ {c : Nat}, c ∉ [N + 4, N + 2, N + 3, N, N + 1] → c ≠ N + 4 ∧ c ≠ N + 3 ∧ c ≠ N ∧ c ≠ N + 1 := fun {c} n => ⟨fun q => n (by simp [q]), fun q => n (by simp [q]), fun q => n (by simp [q]), fun q => n (by simp [q])⟩
    have I1 : Inv X pins σ (upd H s.heap.objs.size (.tup [x, y])) { s with heap := h'', toks := tk } :=
      I.turnedNew (t' := tk) (ch := [N + 4, N + 2, N + 3, N, N + 1]) (fun c o hb q => by
        obtain ⟨n1, n2, n3, n4⟩ := out hb
        exact (sb.2 c n1).trans (hk c o n1 n2 n3 n4 q)) hf (Nat.le_refl _) new
    have d1 : (N + 2 : Nat) ≠ N + 4 := by omega
    have d2 : (N + 3 : Nat) ≠ N + 4 := by omega
    have d3 : (N : Nat) ≠ N + 4 := by omega
    have d4 : (N + 1 : Nat) ≠ N + 4 := by omega
    have d5 : (N + 2 : Nat) ≠ N + 3 ∧ (N + 2 : Nat) ≠ N ∧ (N + 2 : Nat) ≠ N + 1 := by omega
    refine ⟨.ref s.heap.objs.size, _, I1, rfl, ⟨_, x, y, rfl, I.hok.fresh (Nat.le_refl _), rfl, fun l hl => by rw [inj_b I hl sx]; exact gx, fun l hl => by rw [inj_b I hl sy]; exact gy⟩, ⟨z'', ?_, ⟨u, u2, ?_⟩, ?_, ?_⟩, fun c hcm => ?_⟩
    · exact (sb.2 _ d1).trans (hk _ _ d1 d5.1 d5.2.1 d5.2.2 st2)
    · exact (sb.2 _ d2).trans TO'
    · exact t1'.1.keep fun o e => (sb.2 _ d3).trans e
    · exact t2'.1.keep fun o e => (sb.2 _ d4).trans e
    · have hlt : c < s.heap.objs.size := by
        have cs : c = N + 4 ∨ c = N + 2 ∨ c = N + 3 ∨ c = N ∨ c = N + 1 := by simpa using hcm
        have : (c : Nat) ≤ N + 4 := by
          rcases cs with q | q | q | q | q <;> rw [q]
          · exact Nat.le_refl _
          · exact Nat.add_le_add_left (by decide : 2 ≤ 4) N
          · exact Nat.add_le_add_left (by decide : 3 ≤ 4) N
          · exact Nat.le_add_right _ _
          · exact Nat.add_le_add_left (by decide : 1 ≤ 4) N
        exact Nat.lt_of_le_of_lt this zlt
      rw [upd_ne (Nat.ne_of_lt hlt)]
      exact (hf c hcm).1
  done := by
    intro X hP hw hK hc i pins s σ H E I hf st hg
    subst hP hw hK
    obtain ⟨st1, st2, ⟨x0, y0, st3⟩, st4, st5⟩ := st
    obtain ⟨xs, ys, sx, sy, l1, l2⟩ := hg
    obtain ⟨its, rv, ia, _⟩ := inv_b I sx
    obtain ⟨its2, rv2, ib, _⟩ := inv_b I sy
    have k1 := rv.length
    have k2 := rv2.length
    have calm : X.A.in1.handled = none := I.ok.hd hc
    have S : ZipSep2 (N + 4) (N + 2) (N + 3) N (N + 1) [N, a] [N + 1, b] := zip_sep2 (fun c z => by rw [List.mem_singleton.mp z]; exact la) (fun c z => by rw [List.mem_singleton.mp z]; exact lb)
    have i1 : its.toArray.size = i := by rw [List.size_toArray]; omega
    have i2 : its2.toArray.size = i := by rw [List.size_toArray]; omega
    refine wpAny_pyNext_zipD2_end S (draws_b calm N a (Nat.ne_of_lt la) its.toArray p) (draws_b calm (N + 1) b (Nat.ne_of_lt (Nat.lt_succ_of_lt lb)) its2.toArray q) st1 st2 st3 ⟨st4, ia⟩ ⟨st5, ib⟩ (by omega) (by omega) (by omega) fun h' tk hk => ⟨rfl, ?_⟩
    exact I.turnedL (t' := tk) (ch := [N + 4, N + 2, N + 3, N, N + 1]) (fun c o hb q => hk c o (fun z => hb (by simp [z])) (fun z => hb (by simp [z])) (fun z => hb (by simp [z])) (fun z => hb (by simp [z])) q) hf
  self := fun A i s Q E st h => wpAny_pyIter_zip st.1 h
def iZipB (K : PySem.W.Frag) (ta : TA) : TI := fun σ H R => ta σ H fun vs H1 => ∃ (a b : Addr) (xs ys : List V) (p q : Bool), vs = [.ref a, .ref b] ∧ SqB K H1 a xs p ∧ SqB K H1 b ys q ∧ R (ItzB K a b p q) H1
theorem pi_zipB {X : Cx} {K : PySem.W.Frag} {e e2 : Expr} {ta : TA} {p pos tpos : Pos} {elts : List Expr} {kk : Nat} (hK : X.K = K) (glob : Gl X "zip") (free : X.mg "zip" = none) (args : PA X [e, e2] ta)
    (st : starEach [e, e2] X.env = (false, eval e X.env) :: starEach [e2] X.env := by rfl) (bk : (backTo pos (starEach [e2] X.env)).any (·.1) = false := by rfl) : PI X (.Tuple elts kk tpos) (.Call (.Name "zip" p) [e, e2] [] pos) (iZipB K ta) := by
  subst hK
  constructor
  intro pins s σ H R I ask
  refine Call_ (ld_blt I glob free PyProof.Rows.boot_zip (PyProof.Rows.callWith_type1 (thn (args.run pos pins s σ H _ I ask) ?_) st bk))
  rintro us s1 ⟨vs, H1, I1, rel, a, b, xs, ys, p, q, ev, sx, sy, k⟩
  subst ev
  cases rel with
  | cons r rr =>
    cases rr with
    | cons r' rr =>
      cases rr
      cases r
      cases r'
      have fresh5 : ∀ c, c ∈ [s1.heap.objs.size + 4, s1.heap.objs.size + 2, s1.heap.objs.size + 3, s1.heap.objs.size, s1.heap.objs.size + 1] → FpOk X pins H1 c := fun c hcm => by
        have cs : c = s1.heap.objs.size + 4 ∨ c = s1.heap.objs.size + 2 ∨ c = s1.heap.objs.size + 3 ∨ c = s1.heap.objs.size ∨ c = s1.heap.objs.size + 1 := by simpa using hcm
        have low : s1.heap.objs.size ≤ c := by rcases cs with q | q | q | q | q <;> rw [q] <;> first | exact Nat.le_refl _ | exact Nat.le_add_right _ _
        exact I1.fpOk low (I1.hok.fresh low)
      obtain ⟨its, _, ia, la⟩ := inv_b I1 sx
      obtain ⟨its2, _, ib, lb⟩ := inv_b I1 sy
      refine zip_begins2 (begins_b a its.toArray p) (begins_b b its2.toArray q) ia ib fun h' hz hTI hTO h1 h2 hsz hk => wpAny_pyIter_zip hz ?_
      have I2 : Inv X pins σ H1 { s1 with heap := h' } := I1.kept (t' := s1.toks) hk
      exact ⟨s1.heap.objs.size + 4, [s1.heap.objs.size + 4, s1.heap.objs.size + 2, s1.heap.objs.size + 3, s1.heap.objs.size, s1.heap.objs.size + 1], _, _, H1, rfl, I2, turn_zipB la lb, ⟨hz, hTI, ⟨_, _, hTO⟩, first_b h1, first_b h2⟩, fresh5, k⟩
theorem walk_zipB {K : PySem.W.Frag} {a b : Addr} {xs ys : List V} {p q : Bool} {n : Nat} (hx : xs.length = n) (hy : ys.length = n) :
    Walk (ItzB K a b p q) n (fun H => SqB K H a xs p ∧ SqB K H b ys q) (YPair (fun i => xs[i]?) (fun i => ys[i]?)) where
  goes := fun i H hi g => ⟨xs, ys, xs[i]'(by omega), ys[i]'(by omega), g.1, g.2, List.getElem?_eq_getElem _, List.getElem?_eq_getElem _⟩
  stops := fun H g => ⟨xs, ys, g.1, g.2, hx, hy⟩
  yields := fun i H v H' hi g y => by
    obtain ⟨T, x, y, rfl, hT, e, f1, f2⟩ := y
    exact ⟨T, x, y, rfl, hT, e, f1 _ g.1, f2 _ g.2⟩
/-- what a thing holds, counted -/
def IteB (K : PySem.W.Frag) (a : Addr) (p : Bool) : It :=
  ⟨fun i H => ∃ (xs : List V) (x : V), SqB K H a xs p ∧ xs[i]? = some x, fun i H v H' => ∃ T x, v = .ref T ∧ H T = none ∧ H' = upd H T (.tup [.int (i : Nat), x]) ∧ ∀ xs, SqB K H a xs p → xs[i]? = some x, fun i H => ∃ xs : List V, SqB K H a xs p ∧ xs.length = i⟩
theorem turn_enumB {P : Program} {w : World} {K : PySem.W.Frag} {elts : List Expr} {kk : Nat} {tpos : Pos} {a : Addr} {p : Bool} {N : Nat} (la : a < N) :
    Turn P w K (.Tuple elts kk tpos) (IteB K a p) [N + 1, N] (N + 1) (fun i h => (∃ old, IsEnum h (N + 1) N ((i : Nat) : Int) old) ∧ ItB h N a i p) where
  mem := List.mem_cons_self
  obj := fun i h st c hc => by
    obtain ⟨⟨old, st1⟩, st2⟩ := st
    have cs : c = N + 1 ∨ c = N := by simpa using hc
    rcases cs with rfl | rfl
    · exact ⟨_, st1, nofun⟩
    · exact st2.obj
  keep := fun i h h' st k => by
    obtain ⟨⟨old, st1⟩, st2⟩ := st
    exact ⟨⟨old, k _ (by simp) _ st1⟩, st2.keep (k _ (by simp))⟩
  item := by
    intro X hP hw hK hc i pins s σ H E I hf st hg
    subst hP hw hK
    obtain ⟨⟨old, st1⟩, st2⟩ := st
    obtain ⟨xs, x, sx, gx⟩ := hg
    obtain ⟨its, rv, ia, _⟩ := inv_b I sx
    obtain ⟨u, hu, ru⟩ := rv.get gx
    have calm : X.A.in1.handled = none := I.ok.hd hc
    have elt : N + 1 < s.heap.objs.size := Heap.lt_size st1
    have i1 : i < its.toArray.size := by
      rw [List.size_toArray]
      exact (List.getElem?_eq_some_iff.mp hu).1
    refine wpAny_pyNext_enum_itemC (draws_b calm N a (Nat.ne_of_lt la) its.toArray p) st1 ⟨st2, ia⟩ i1 (Nat.succ_ne_self N) (by
      intro z
      have cs : N + 1 = N ∨ N + 1 = a := by simpa using z
      have : ¬ (N + 1 = N) := Nat.succ_ne_self N
      rcases cs with q | q
      · exact this q
      · have la' : (a : Nat) < N := la
        rw [← q] at la'
        exact Nat.lt_irrefl N (Nat.lt_trans (Nat.lt_succ_self N) la')) fun v h' tk p1 out t1 hT hsz hk => ?_
    have p1' : its.toArray[i]? = some v := p1
    rw [List.getElem?_toArray, hu] at p1'
    obtain rfl := Option.some.inj p1'
    refine ⟨_, rfl, wpAny_letOwnedTupleGo_enum (s := { s with heap := h', toks := tk + 1 }) out fun h'' he' sb => ?_⟩
    have hT2 : h''.get? s.heap.objs.size = some { cls := .type "tuple", data := .seq #[.int i tk, u] } := (sb.2 _ (Nat.ne_of_gt elt)).trans hT
    have new : ObjOk X.prog X.w (upd H s.heap.objs.size (.tup [.int (i : Nat), x])) h'' s.heap.objs.size (.tup [.int (i : Nat), x]) :=
      ⟨small (by show 2 ≤ 100000; decide), [.int i tk, u], .cons ⟨_, rfl⟩ (.cons ru .nil), ⟨_, hT2, rfl, _, rfl⟩⟩
    have I1 : Inv X pins σ (upd H s.heap.objs.size (.tup [.int (i : Nat), x])) { s with heap := h'', toks := tk + 1 } :=
      I.turnedNew (t' := tk + 1) (ch := [N + 1, N]) (fun c o hb q => (sb.2 c (fun z => hb (by simp [z]))).trans (hk c o (fun z => hb (by simp [z])) (fun z => hb (by simp [z])) q)) hf (Nat.le_refl _) new
    refine ⟨.ref s.heap.objs.size, _, I1, rfl, ⟨_, x, rfl, I.hok.fresh (Nat.le_refl _), rfl, fun l hl => by rw [inj_b I hl sx]; exact gx⟩, ⟨⟨u, ?_⟩, ?_⟩, fun c hcm => ?_⟩
    · have e1 : ((i + 1 : Nat) : Int) = (i : Int) + 1 := by omega
      rw [e1]
      exact he'
    · exact t1.1.keep fun o e => (sb.2 _ (Nat.ne_of_lt (Nat.lt_succ_self N))).trans e
    · have hlt : c < s.heap.objs.size := by
        have cs : c = N + 1 ∨ c = N := by simpa using hcm
        rcases cs with q | q <;> rw [q]
        · exact elt
        · exact Nat.lt_trans (Nat.lt_succ_self N) elt
      rw [upd_ne (Nat.ne_of_lt hlt)]
      exact (hf c hcm).1
  done := by
    intro X hP hw hK hc i pins s σ H E I hf st hg
    subst hP hw hK
    obtain ⟨⟨old, st1⟩, st2⟩ := st
    obtain ⟨xs, sx, l1⟩ := hg
    obtain ⟨its, rv, ia, _⟩ := inv_b I sx
    have k1 := rv.length
    have calm : X.A.in1.handled = none := I.ok.hd hc
    have i1 : its.toArray.size = i := by rw [List.size_toArray]; omega
    refine wpAny_pyNext_enum_endD (draws_b calm N a (Nat.ne_of_lt la) its.toArray p) st1 (by rw [i1]; exact ⟨st2, ia⟩) fun h' hx => ⟨rfl, ?_⟩
    exact I.turnedL (t' := s.toks) (ch := [N + 1, N]) (fun c o hb q => hx c o (fun z => hb (by simp [z])) q) hf
  self := fun A i s Q E st h => by
    obtain ⟨⟨old, st1⟩, _⟩ := st
    exact wpAny_pyIter_enum st1 h
theorem enum1_meets {v : Value} {o : Obj} {G : Heap → Prop} (B : Begins v o G) :
    Meets (Builtin.«enumerate.__new__» ⟨[.type "enumerate", v], []⟩) (fun _ R s => G s.heap ∧ R (.ok (.ret (.ref (s.heap.push o).objs.size))) { s with heap := (s.heap.push o).push { cls := .type "enumerate", data := .fields #[.none, .bool false, .ref s.heap.objs.size, rawInt 0, .none, .none] } }) :=
  .of_wp fun prog w A R s ask => by
    obtain ⟨hp, g, d, tk, os⟩ := s; obtain ⟨g1, ask⟩ := ask
    have hsub := sub_enumerate
    have way : ∀ {A' : Around} {E : Value → Shared → Prop} {Q : Value → Shared → Prop}, Q (.ref hp.objs.size) ⟨hp.push o, g, d, tk, os⟩ → wpAny (model prog w) A' (pyIter v) Q E ⟨hp, g, d, tk, os⟩ := fun k => B.iter prog w _ _ ⟨hp, g, d, tk, os⟩ _ g1 k
    wp_walk using way
    refine wpAny_stack_any fun st => wpAny_pure ?_
    split
    · rename_i c _ _ _ _ _
      cases (c == Value.type "enumerate") <;> (wp_walk using way; exact ⟨_, rfl, ask⟩)
    · wp_walk using way
      exact ⟨_, rfl, ask⟩
theorem enum1_begins {prog : Program} {w : World} {A : Around} {E : Value → Shared → Prop} {s : Shared} {v : Value} {o : Obj} {G : Heap → Prop} {Q : Value → Shared → Prop} (B : Begins v o G) (g1 : G s.heap)
    (ask : ∀ h', IsEnum h' (s.heap.objs.size + 1) s.heap.objs.size 0 .none → h'.get? s.heap.objs.size = some o → h'.objs.size = s.heap.objs.size + 2 → (∀ b o, s.heap.get? b = some o → h'.get? b = some o) → Q (.ref (s.heap.objs.size + 1)) { s with heap := h' }) :
    wpAny (model prog w) A (call (.type "enumerate") [v]) Q E s := by
  refine callType_new F.called_enumerate (by decide) (F.typeCall_enumerate_1 _) (F.newCall_enumerate_1 _) (fun obj => F.args_object_init_2 obj _) F.entry_enumerate_new (enum1_meets B) ⟨g1, ?_⟩
  have sz : (s.heap.push o).objs.size = s.heap.objs.size + 1 := Heap.size_push ..
  show _ ∧ _
  rw [sz]
  have he : IsEnum ((s.heap.push o).push { cls := .type "enumerate", data := .fields #[.none, .bool false, .ref s.heap.objs.size, rawInt 0, .none, .none] }) (s.heap.objs.size + 1) s.heap.objs.size 0 .none := by
    have k := Heap.get?_push_size (s.heap.push o) (o := { cls := .type "enumerate", data := .fields #[.none, .bool false, .ref s.heap.objs.size, rawInt 0, .none, .none] }) rfl
    rw [sz] at k; exact k
  exact ⟨⟨_, he, rfl⟩, ask _ he (Heap.get?_push_of_some _ (Heap.get?_push_size _ B.free)) (by rw [Heap.size_push, sz]) fun b o x => Heap.get?_push_of_some _ (Heap.get?_push_of_some _ x)⟩
def iEnumB (K : PySem.W.Frag) (ta : TA) : TI := fun σ H R => ta σ H fun vs H1 => ∃ (a : Addr) (xs : List V) (p : Bool), vs = [.ref a] ∧ SqB K H1 a xs p ∧ R (IteB K a p) H1
theorem pi_enumB {X : Cx} {K : PySem.W.Frag} {e : Expr} {ta : TA} {p pos tpos : Pos} {elts : List Expr} {kk : Nat} (hK : X.K = K) (glob : Gl X "enumerate") (free : X.mg "enumerate" = none) (args : PA X [e] ta) (st : starEach [e] X.env = [(false, eval e X.env)] := by rfl) :
    PI X (.Tuple elts kk tpos) (.Call (.Name "enumerate" p) [e] [] pos) (iEnumB K ta) := by
  subst hK
  constructor
  intro pins s σ H R I ask
  refine Call_ (ld_blt I glob free boot_enumerate (PyProof.Rows.callWith_type1 (thn (args.run pos pins s σ H _ I ask) ?_) st rfl))
  rintro us s1 ⟨vs, H1, I1, rel, a, xs, p, ev, sx, k⟩
  subst ev
  cases rel with
  | cons r rr =>
    cases rr
    cases r
    obtain ⟨its, _, ia, la⟩ := inv_b I1 sx
    refine enum1_begins (begins_b a its.toArray p) ia fun h' he h1 hsz hk => wpAny_pyIter_enum he ?_
    have I2 : Inv X pins σ H1 { s1 with heap := h' } := I1.kept (t' := s1.toks) hk
    refine ⟨s1.heap.objs.size + 1, [s1.heap.objs.size + 1, s1.heap.objs.size], _, _, H1, rfl, I2, turn_enumB la, ⟨⟨.none, he⟩, first_b h1⟩, fun c hcm => ?_, k⟩
    have cs : c = s1.heap.objs.size + 1 ∨ c = s1.heap.objs.size := by simpa using hcm
    have low : s1.heap.objs.size ≤ c := by rcases cs with q | q <;> rw [q] <;> first | exact Nat.le_refl _ | exact Nat.le_add_right _ _
    exact I1.fpOk low (I1.hok.fresh low)
theorem walk_enumB {K : PySem.W.Frag} {a : Addr} {xs : List V} {p : Bool} : Walk (IteB K a p) xs.length (fun H => SqB K H a xs p) (YPair (fun i => some (.int (i : Nat))) (fun i => xs[i]?)) where
  goes := fun i H hi g => ⟨xs, xs[i]'(by omega), g, List.getElem?_eq_getElem _⟩
  stops := fun H g => ⟨xs, g, rfl⟩
  yields := fun i H v H' hi g y => by
    obtain ⟨T, x, rfl, hT, e, f⟩ := y
    exact ⟨T, _, x, rfl, hT, e, rfl, f _ g⟩
/-- for over a list or a tuple -/
def iSeqB (K : PySem.W.Frag) (tl : TE) : TI := fun σ H R => tl σ H fun x H1 => ∃ a, x = .ref a ∧ (((∃ xs, SqL K H1 a xs) ∧ R (Itl K a) H1) ∨ ((∃ xs, SqT K H1 a xs) ∧ R (Itt K a) H1))
theorem pi_seqB {X : Cx} {K : PySem.W.Frag} {tg l : Expr} {tl : TE} (hK : X.K = K) (hl : PE X l tl) : PI X tg l (iSeqB K tl) := by
  subst hK
  constructor
  intro pins s σ H R I ask
  refine thn (hl.run pins s σ H _ I ask) fun v s1 ⟨x, H1, I1, r1, a, e, q⟩ => ?_
  subst e
  have e1 : v = Value.ref a := r1
  subst e1
  rcases q with ⟨⟨xs, sx⟩, k⟩ | ⟨⟨xs, sx⟩, k⟩
  · obtain ⟨its, _, ia, _⟩ := I1.list sx
    refine wpAny_pyIter_list ia.isList ⟨s1.heap.objs.size, [s1.heap.objs.size], _, _, H1, rfl, I1.kept (t' := s1.toks) (fun b o e => Heap.get?_push_of_some _ e), turn_list a _, ⟨_, Heap.get?_push_size _ rfl, rfl, rfl⟩, fun c hc => ?_, k⟩
    rw [List.mem_singleton.mp hc]; exact I1.fpOk (Nat.le_refl _) (I1.hok.fresh (Nat.le_refl _))
  · obtain ⟨its, _, ia, _⟩ := I1.tuple sx
    refine wpAny_pyIter_tuple (show s1.heap.IsTuple a its.toArray from ia) ⟨s1.heap.objs.size, [s1.heap.objs.size], _, _, H1, rfl, I1.kept (t' := s1.toks) (fun b o e => Heap.get?_push_of_some _ e), turn_tuple a _, ⟨_, Heap.get?_push_size _ rfl, rfl, rfl⟩, fun c hc => ?_, k⟩
    rw [List.mem_singleton.mp hc]; exact I1.fpOk (Nat.le_refl _) (I1.hok.fresh (Nat.le_refl _))
/-- one rule for a list and a tuple -/
def ItsB (K : PySem.W.Frag) (a : Addr) : Bool → It
  | true => Itl K a
  | false => Itt K a
def iSeqU (K : PySem.W.Frag) (tl : TE) : TI := fun σ H R => tl σ H fun x H1 => ∃ (a : Addr) (xs : List V) (p : Bool), x = .ref a ∧ SqB K H1 a xs p ∧ R (ItsB K a p) H1
theorem pi_seqU {X : Cx} {K : PySem.W.Frag} {tg l : Expr} {tl : TE} (hK : X.K = K) (hl : PE X l tl) : PI X tg l (iSeqU K tl) := by
  subst hK
  constructor
  intro pins s σ H R I ask
  refine thn (hl.run pins s σ H _ I ask) fun v s1 ⟨x, H1, I1, r1, a, xs, p, e, sx, k⟩ => ?_
  subst e
  have e1 : v = Value.ref a := r1
  subst e1
  cases p with
  | true =>
    obtain ⟨its, _, ia, _⟩ := I1.list sx
    refine wpAny_pyIter_list ia.isList ⟨s1.heap.objs.size, [s1.heap.objs.size], _, _, H1, rfl, I1.kept (t' := s1.toks) (fun b o e => Heap.get?_push_of_some _ e), turn_list a _, ⟨_, Heap.get?_push_size _ rfl, rfl, rfl⟩, fun c hc => ?_, k⟩
    rw [List.mem_singleton.mp hc]; exact I1.fpOk (Nat.le_refl _) (I1.hok.fresh (Nat.le_refl _))
  | false =>
    obtain ⟨its, _, ia, _⟩ := I1.tuple sx
    refine wpAny_pyIter_tuple (show s1.heap.IsTuple a its.toArray from ia) ⟨s1.heap.objs.size, [s1.heap.objs.size], _, _, H1, rfl, I1.kept (t' := s1.toks) (fun b o e => Heap.get?_push_of_some _ e), turn_tuple a _, ⟨_, Heap.get?_push_size _ rfl, rfl, rfl⟩, fun c hc => ?_, k⟩
    rw [List.mem_singleton.mp hc]; exact I1.fpOk (Nat.le_refl _) (I1.hok.fresh (Nat.le_refl _))
theorem walk_seqU {K : PySem.W.Frag} {a : Addr} {xs : List V} {p : Bool} : Walk (ItsB K a p) xs.length (fun H => SqB K H a xs p) (YAt xs) := by
  cases p with
  | true => exact walk_list
  | false => exact walk_tup
end KR
/-! ### fractions of many bits: a common bottom, a bound -/
namespace KR
open PySem PySem.Spec PyProof.Rows L2
def sp_lowV : Sp := fun vs H Q _ => ∃ t b : Int, vs = [.int t, .int b] ∧ b ≠ 0 ∧ t.natAbs < 2 ^ 8900 ∧ b.natAbs < 2 ^ 8900 ∧ ∀ p H', Same H H' → H p = none → H' p = some (.tup [.int (low t b).1, .int (low t b).2]) → Q (.ref p) H'
def sp_lowW (K : PySem.W.Frag) : Sp := fun vs H Q _ => ∃ t b : Int, vs = [.int t, .int b] ∧ b ≠ 0 ∧ t.natAbs < 2 ^ 8900 ∧ b.natAbs < 2 ^ 8900 ∧ ∀ p H', Same H H' → H p = none → FrQ K H' p (rq t b) → Q (.ref p) H'
theorem lowW {K : PySem.W.Frag} {vs : List V} {H : Hp} {Q : VK} {E : XK} (h : sp_lowW K vs H Q E) : sp_lowV vs H Q E := by
  obtain ⟨t, b, e, hb, h1, h2, q⟩ := h
  refine ⟨t, b, e, hb, h1, h2, fun p H' s hp h' => q p H' s hp ?_⟩
  rw [rq_low hb] at h'
  exact .of h'
abbrev Big (q : Rat) : Prop := Sz 4400 q
def sp_w2 (K : PySem.W.Frag) (f : Rat → Rat → Rat) (ok : Rat → Rat → Prop) : Sp := fun vs H Q _ => ∃ (x y : Addr) (p q : Rat), vs = [.ref x, .ref y] ∧ FrQ K H x p ∧ FrQ K H y q ∧ Big p ∧ Big q ∧ ok p q ∧ ∀ z H', Same H H' → H z = none → FrQ K H' z (f p q) → Q (.ref z) H'
/-- so often as M tells it is a whole number -/
def Dv (M : Nat) (q : Rat) : Prop := ∃ z : Int, q * ((M : Int) : Rat) = (z : Rat)
theorem Dv.zero {M : Nat} : Dv M 0 := ⟨0, by rw [Rat.zero_mul]; rfl⟩
theorem Dv.int {M : Nat} (i : Int) : Dv M (i : Rat) := ⟨i * M, by rw [Rat.intCast_mul]⟩
theorem Dv.add {M : Nat} {p q : Rat} (h : Dv M p) (k : Dv M q) : Dv M (p + q) := by
  obtain ⟨a, ea⟩ := h
  obtain ⟨b, eb⟩ := k
  exact ⟨a + b, by rw [Rat.add_mul, ea, eb, Rat.intCast_add]⟩
theorem Dv.neg {M : Nat} {p : Rat} (h : Dv M p) : Dv M (-p) := by
  obtain ⟨a, ea⟩ := h
  exact ⟨-a, by rw [Rat.neg_mul, ea, Rat.intCast_neg]⟩
theorem Dv.sub {M : Nat} {p q : Rat} (h : Dv M p) (k : Dv M q) : Dv M (p - q) := by
  rw [Rat.sub_eq_add_neg]
  exact h.add k.neg
theorem Dv.mul {M N : Nat} {p q : Rat} (h : Dv M p) (k : Dv N q) : Dv (M * N) (p * q) := by
  obtain ⟨a, ea⟩ := h
  obtain ⟨b, eb⟩ := k
  refine ⟨a * b, ?_⟩
  rw [Rat.intCast_mul, ← ea, ← eb, Int.natCast_mul, Rat.intCast_mul]
  generalize ((M : Int) : Rat) = m
  generalize ((N : Int) : Rat) = n
  grind
theorem Dv.up {M N : Nat} {q : Rat} (h : Dv M q) (d : M ∣ N) : Dv N q := by
  obtain ⟨a, ea⟩ := h
  obtain ⟨k, rfl⟩ := d
  refine ⟨a * k, ?_⟩
  rw [Rat.intCast_mul, ← ea, Int.natCast_mul, Rat.intCast_mul]
  generalize ((M : Int) : Rat) = m
  generalize ((k : Int) : Rat) = n
  grind
theorem Dv.rq {t b : Int} (hb : 0 < b) : Dv b.natAbs (KR.rq t b) := by
  refine ⟨t, ?_⟩
  have e : ((b.natAbs : Nat) : Int) = b := by omega
  rw [e]
  have h := int_ne (show b ≠ 0 by omega)
  unfold KR.rq
  generalize (t : Rat) = x
  generalize (b : Rat) = y at *
  grind
theorem Dv.den (q : Rat) : Dv q.den q := by
  have k := Dv.rq (t := q.num) (b := (q.den : Int)) (by have := q.den_pos; omega)
  rw [rq_self, Int.natAbs_natCast] at k
  exact k
theorem rat_le_abs {z : Int} {M B : Nat} {q : Rat} (e : q * ((M : Int) : Rat) = (z : Rat)) (lo : -((B : Int) : Rat) ≤ q) (hi : q ≤ ((B : Int) : Rat)) : z.natAbs ≤ B * M := by
  have m0 := cast_nn (show (0 : Int) ≤ (M : Int) by omega)
  have k1 := Rat.mul_le_mul_of_nonneg_right hi m0
  have k2 := Rat.mul_le_mul_of_nonneg_right lo m0
  rw [e, ← Rat.intCast_mul] at k1
  rw [e, ← Rat.intCast_neg, ← Rat.intCast_mul] at k2
  have h1 := Rat.intCast_le_intCast.mp k1
  have h2 := Rat.intCast_le_intCast.mp k2
  have h3 : -(B : Int) * (M : Int) = -((B : Int) * (M : Int)) := Int.neg_mul _ _
  rw [h3] at h2
  have h4 : ((B * M : Nat) : Int) = (B : Int) * (M : Int) := Int.natCast_mul _ _
  omega
/-- what has a common bottom and a bound is not long -/
theorem Dv.sz {M B n : Nat} {q : Rat} (h : Dv M q) (hM : 0 < M) (lo : -((B : Int) : Rat) ≤ q) (hi : q ≤ ((B : Int) : Rat)) (b1 : 1 ≤ B) (fit : B * M < 2 ^ n) : Sz n q := by
  obtain ⟨z, e⟩ := h
  have k := rat_le_abs e lo hi
  have m1 : M ≤ B * M := Nat.le_mul_of_pos_left M b1
  have eq : q = KR.rq z (M : Int) := by
    have h := int_ne (show (M : Int) ≠ 0 by omega)
    unfold KR.rq
    rw [← e]
    generalize ((M : Int) : Rat) = y at *
    grind
  rw [eq]
  exact sz_rq (by omega) (Nat.lt_of_le_of_lt k fit) (by rw [Int.natAbs_natCast]; exact Nat.lt_of_le_of_lt m1 fit)
theorem fit_lt {M B m b n : Nat} (hM : M < 2 ^ m) (hB : B < 2 ^ b) (h : b + m ≤ n) : B * M < 2 ^ n :=
  Nat.lt_of_lt_of_le (by rw [Nat.pow_add]; exact Nat.mul_lt_mul'' hB hM) (Nat.pow_le_pow_right (by decide) h)
theorem Dv.szN {M B n : Nat} {q : Rat} (h : Dv M q) (hM : 0 < M) (lo : 0 ≤ q) (hi : q ≤ ((B : Int) : Rat)) (b1 : 1 ≤ B) (fit : B * M < 2 ^ n) : Sz n q := by
  refine h.sz hM ?_ hi b1 fit
  have := cast_nn (show (0 : Int) ≤ (B : Int) by omega)
  grind
/-- rows of fractions -/
abbrev Fz := Addr × Rat
def rz (l : List Fz) : List V := l.map fun z => V.ref z.1
def FL (K : PySem.W.Frag) (H : Hp) (l : List Fz) : Prop := ∀ z ∈ l, FrQ K H z.1 z.2
theorem FL.same {K : PySem.W.Frag} {H H' : Hp} {l : List Fz} (h : FL K H l) (e : Same H H') : FL K H' l := fun z hz => (h z hz).same e
theorem FL.fr {K : PySem.W.Frag} {H H' : Hp} {p : Addr} {n : Nat} {l : List Fz} (h : FL K H l) (B : BoxAt H p n) (f : Fr p H H') : FL K H' l := fun z hz => (h z hz).fr B f
theorem FL.nil {K : PySem.W.Frag} {H : Hp} : FL K H [] := fun z hz => absurd hz List.not_mem_nil
theorem FL.snoc {K : PySem.W.Frag} {H : Hp} {l : List Fz} {z : Fz} (h : FL K H l) (k : FrQ K H z.1 z.2) : FL K H (l ++ [z]) := fun y hy => by
  rcases List.mem_append.mp hy with m | m
  · exact h y m
  · rw [List.mem_singleton.mp m]
    exact k
theorem FL.put {K : PySem.W.Frag} {H : Hp} {l : List Fz} {p : Addr} {xs ys : List V} (h : FL K H l) (hp : H p = some (.lst xs)) : FL K (upd H p (.lst ys)) l := fun z hz => sqT_frL (h z hz) hp fr_upd
theorem rz_len (l : List Fz) : (rz l).length = l.length := List.length_map _
theorem rz_get {l : List Fz} {i : Nat} {x : V} (h : (rz l)[i]? = some x) : ∃ z, l[i]? = some z ∧ x = .ref z.1 := by
  unfold rz at h
  rw [List.getElem?_map] at h
  cases e : l[i]? with
  | none =>
    rw [e] at h
    cases h
  | some z =>
    rw [e] at h
    exact ⟨z, rfl, (Option.some.inj h).symm⟩
theorem rz_snoc (l : List Fz) (z : Fz) : rz (l ++ [z]) = rz l ++ [.ref z.1] := by
  unfold rz
  rw [List.map_append] <;> rfl
/-- all together -/
def zsum : List Rat → Rat
  | [] => 0
  | q :: r => q + zsum r
theorem zsum_app (a b : List Rat) : zsum (a ++ b) = zsum a + zsum b := by
  induction a with
  | nil =>
    show zsum b = 0 + zsum b
    rw [Rat.zero_add]
  | cons q r ih =>
    show q + zsum (r ++ b) = q + zsum r + zsum b
    rw [ih, Rat.add_assoc]
theorem zsum_one (q : Rat) : zsum [q] = q := Rat.add_zero q
theorem zsum_take {l : List Rat} {i : Nat} {q : Rat} (h : l[i]? = some q) : zsum (l.take (i + 1)) = zsum (l.take i) + q := by
  rw [take_one h, zsum_app, zsum_one]
theorem Dv.all {M : Nat} {l : List Rat} (h : ∀ q ∈ l, Dv M q) : Dv M (zsum l) := by
  induction l with
  | nil => exact .zero
  | cons q r ih => exact (h q List.mem_cons_self).add (ih fun y hy => h y (List.mem_cons_of_mem _ hy))
theorem zsum_nn {l : List Rat} (h : ∀ q ∈ l, 0 ≤ q) : 0 ≤ zsum l := by
  induction l with
  | nil => exact Rat.le_refl
  | cons q r ih =>
    have h1 := h q List.mem_cons_self
    have h2 := ih fun y hy => h y (List.mem_cons_of_mem _ hy)
    show 0 ≤ q + zsum r
    grind
theorem zsum_le {B : Rat} {l : List Rat} (h : ∀ q ∈ l, q ≤ B) : zsum l ≤ ((l.length : Int) : Rat) * B := by
  induction l with
  | nil =>
    show (0 : Rat) ≤ ((0 : Int) : Rat) * B
    have : ((0 : Int) : Rat) = 0 := rfl
    rw [this, Rat.zero_mul]
    exact Rat.le_refl
  | cons q r ih =>
    have h1 := h q List.mem_cons_self
    have h2 := ih fun y hy => h y (List.mem_cons_of_mem _ hy)
    show q + zsum r ≤ (((r.length + 1 : Nat) : Int) : Rat) * B
    have e : (((r.length + 1 : Nat) : Int) : Rat) = ((r.length : Int) : Rat) + 1 := by
      rw [Int.natCast_add, Rat.intCast_add] <;> rfl
    rw [e]
    generalize ((r.length : Int) : Rat) = n at *
    grind
theorem zsum_take_le {l : List Rat} (h : ∀ q ∈ l, 0 ≤ q) (i : Nat) : zsum (l.take i) ≤ zsum l := by
  have e : zsum l = zsum (l.take i) + zsum (l.drop i) := by rw [← zsum_app, List.take_append_drop]
  have k := zsum_nn (l := l.drop i) fun q hq => h q (List.mem_of_mem_drop hq)
  grind
/-- rows of fractions that may be added one after another -/
def AddOk (l : List Rat) : Prop := ∀ i, i ≤ l.length → Big (zsum (l.take i))
/-- a part: from 0 to 1, its bottom at most 12 -/
structure Part (q : Rat) : Prop where
  lo : 0 ≤ q
  hi : q ≤ 1
  bt : q.den ≤ 12
theorem Part.dv {q : Rat} (h : Part q) : Dv 27720 q := by
  refine (Dv.den q).up ?_
  have h1 := h.bt
  have h0 := q.den_pos
  generalize q.den = d at *
  have all : ∀ d, d ≤ 12 → 0 < d → d ∣ 27720 := by decide
  exact all d h1 h0
theorem Part.zero : Part 0 := ⟨Rat.le_refl, by decide, by decide⟩
theorem den_le {t b : Int} (hb : 0 < b) : ((rq t b).den : Int) ≤ b := by
  have e := rq_low (t := t) (b := b) (by omega)
  have k : (low t b).2 = ((rq t b).den : Int) := by rw [e]
  rw [← k]
  show (b.natAbs : Int) / (Nat.gcd t.natAbs b.natAbs : Int) ≤ b
  have g : (0 : Int) < (Nat.gcd t.natAbs b.natAbs : Int) := by
    have := Nat.gcd_pos_of_pos_right t.natAbs (show 0 < b.natAbs by omega)
    omega
  have h := Int.ediv_le_self (a := (b.natAbs : Int)) (Nat.gcd t.natAbs b.natAbs : Int) (by omega)
  omega
theorem Part.rq {t b : Int} (h0 : 0 ≤ t) (h1 : t ≤ b) (hb : 0 < b) (b12 : b ≤ 12) : Part (KR.rq t b) :=
  ⟨rq_nn h0 hb, rq_le_one h1 hb, by have := den_le (t := t) hb; omega⟩
end KR
/-! ### rounds: rows of fractions added, kinds -/
namespace KR
open PySem PySem.Spec PyProof.Rows L2
theorem rz_q {l : List Fz} {i : Nat} {z : Fz} (h : l[i]? = some z) : (l.map (·.2))[i]? = some z.2 := by rw [List.getElem?_map, h] <;> rfl
/-- one after another is added -/
theorem all_loop {K : PySem.W.Frag} {J : It} {G : Hp → Prop} {l : List Fz} {a z0 : Addr} {H H1 : Hp} {D : Ends} {v : Option V} (hw : Walk J (rz l).length G (YAt (rz l))) (hG : ∀ H', Same H H' → G H') (s1 : Same H H1) (h0 : FrQ K H1 z0 0) (hf : FL K H l) (big : ∀ z ∈ l, Big z.2) (add : AddOk (l.map (·.2)))
    (q : ∀ z v H', Same H H' → FrQ K H' z (zsum (l.map (·.2))) → D.nx [some (.ref a), some (.ref z), v] H') :
    ∃ W : Nat → Nat → L2.St → Hp → Prop, (∃ m, W 0 m [some (.ref a), some (.ref z0), v] H1) ∧ ∀ i m σ H, W i m σ H →
      (J.stop i H ∧ D.nx σ H) ∨ (J.go i H ∧ ∃ N : L2.St → Hp → Prop, (∀ σ' H', N σ' H' → ∃ m', m' < m ∧ W (i + 1) m' σ' H') ∧ ∀ x H', J.yld i H x H' → gName 2 x σ H' fun σ2 H2 =>
        tAsg (tCall (sp_w2 K (fun p q => p + q) fun _ _ => True) [] E0 (tCons (tVar 1) (tCons (tVar 2) tNil))) (gName 1) { D with nx := N, ct := N, bk := D.nx } σ2 H2) := by
  refine for_it hw (fun i σ H' => ∃ (z : Addr) (v : Option V), σ = [some (.ref a), some (.ref z), v] ∧ Same H H' ∧ FrQ K H' z (zsum ((l.map (·.2)).take i))) ⟨z0, v, rfl, s1, h0⟩ ?_ ?_ ?_
  · rintro i σ H' _ ⟨z, v, _, s, _⟩
    exact hG H' s
  · rintro i x σ H' H'' hi ⟨z, v, rfl, s, hz⟩ ⟨rfl, hx⟩
    obtain ⟨y, hy, rfl⟩ := rz_get hx
    have my := List.mem_of_getElem? hy
    have il : i < (l.map (·.2)).length := by
      rw [List.length_map]
      exact (List.getElem?_eq_some_iff.mp hy).1
    refine ⟨_, rfl, _, rfl, z, y.1, _, y.2, rfl, hz, (hf y my).same s, add i (Nat.le_of_lt il), big y my, trivial, fun z' H2 s2 n2 h2 => ?_⟩
    refine ⟨z', _, rfl, s.trans s2, ?_⟩
    rw [zsum_take (rz_q hy)]
    exact h2
  · rintro σ H' ⟨z, v, rfl, s, hz⟩
    rw [rz_len] at hz
    have e : (l.map (·.2)).take l.length = l.map (·.2) := by
      rw [← List.length_map (as := l) (·.2), List.take_length]
    rw [e] at hz
    exact q z v H' s hz
theorem part_sz {q : Rat} (h : Part q) : Sz 4 q := by
  have h0 := h.lo
  have h1 := h.hi
  have b := h.bt
  have d0 := q.den_pos
  have n0 : 0 ≤ q.num := Rat.num_nonneg.mpr h0
  have n1 : q.num ≤ (q.den : Int) := by
    have k := (lt_cross 1 q)
    have e : ¬ ((1 : Rat).num * (q.den : Int) < q.num * ((1 : Rat).den : Int)) := fun z => absurd (k.mp z) (by grind)
    have e1 : (1 : Rat).num = 1 := rfl
    have e2 : (((1 : Rat).den : Nat) : Int) = 1 := rfl
    rw [e1, e2] at e
    omega
  exact ⟨by omega, by omega⟩
theorem part_big {q : Rat} (h : Part q) : Big q := (part_sz h).up (by decide)
theorem le_one_iff (q : Rat) : q.num ≤ (q.den : Int) ↔ q ≤ 1 := by
  have k := (lt_cross 1 q)
  have e1 : (1 : Rat).num = 1 := rfl
  have e2 : (((1 : Rat).den : Nat) : Int) = 1 := rfl
  rw [e1, e2, Int.one_mul, Int.mul_one] at k
  constructor
  · intro h
    exact Rat.not_lt.mp fun z => by
      have := k.mpr z
      omega
  · intro h
    exact Int.not_lt.mp fun z => absurd (k.mp z) (Rat.not_lt.mpr h)
theorem sum_big {M B : Nat} {l : List Rat} (dv : ∀ q ∈ l, Dv M q) (lo : ∀ q ∈ l, 0 ≤ q) (hi : zsum l ≤ ((B : Int) : Rat)) (hM : 0 < M) (hB : 1 ≤ B) (fit : B * M < 2 ^ 4400) : AddOk l := fun i _ => by
  have sub : ∀ q ∈ l.take i, q ∈ l := fun q h => List.mem_of_mem_take h
  exact (Dv.all fun q h => dv q (sub q h)).szN hM (zsum_nn fun q h => lo q (sub q h)) (Rat.le_trans (zsum_take_le lo i) hi) hB fit
theorem parts_add {l : List Rat} (h : ∀ q ∈ l, Part q) (len : l.length ≤ 7) : AddOk l := by
  refine sum_big (M := 27720) (B := 7) (fun q hq => (h q hq).dv) (fun q hq => (h q hq).lo) ?_ (by decide) (by decide) (Nat.lt_of_lt_of_le (by decide : 7 * 27720 < 2 ^ 20) (Nat.pow_le_pow_right (by decide) (by decide)))
  have k := zsum_le (B := 1) fun q hq => (h q hq).hi
  have c : ((l.length : Int) : Rat) ≤ ((7 : Int) : Rat) := Rat.intCast_le_intCast.mpr (by omega)
  rw [Rat.mul_one] at k
  exact Rat.le_trans k c
theorem zsum_set {l : List Rat} {i : Nat} {q : Rat} (r : Rat) (h : l[i]? = some q) : zsum (l.set i r) = zsum l - q + r := by
  have lt := (List.getElem?_eq_some_iff.mp h).1
  have e1 : l = l.take i ++ (q :: l.drop (i + 1)) := by
    have := List.take_append_drop i l
    rw [List.drop_eq_getElem_cons lt, (List.getElem?_eq_some_iff.mp h).2] at this
    exact this.symm
  rw [List.set_eq_take_append_cons_drop, if_pos lt, zsum_app]
  have e2 : zsum l = zsum (l.take i) + zsum (q :: l.drop (i + 1)) := by
    rw [← zsum_app, ← e1]
  rw [e2]
  show zsum (l.take i) + (r + zsum (l.drop (i + 1))) = zsum (l.take i) + (q + zsum (l.drop (i + 1))) - q + r
  grind
theorem rz_set (l : List Fz) (i : Nat) (z : Fz) : (rz l).set i (.ref z.1) = rz (l.set i z) := by
  unfold rz
  rw [List.map_set]
theorem cut_rz (l : List Fz) (lo hi : Option Int) : ∃ a b, cutV (rz l) lo hi = rz ((l.drop a).take b) := by
  refine ⟨HT.sIx (rz l).length 0 lo, HT.sIx (rz l).length (rz l).length hi - HT.sIx (rz l).length 0 lo, ?_⟩
  unfold cutV rz
  rw [List.map_take, List.map_drop]
theorem cut_to {xs : List V} {n : Nat} (h : n ≤ xs.length) : cutV xs none (some (n : Int)) = xs.take n := by
  unfold cutV
  rw [HT.sIx_none, HT.sIx_nat, Nat.min_eq_left h, Nat.sub_zero, List.drop_zero]
theorem cut_from {xs : List V} {n : Nat} (h : n ≤ xs.length) : cutV xs (some (n : Int)) none = xs.drop n := by
  unfold cutV
  rw [HT.sIx_none, HT.sIx_nat, Nat.min_eq_left h]
  exact List.take_of_length_le (by rw [List.length_drop]; omega)
theorem rep_rz (k : Nat) (z : Fz) : (List.replicate ((k : Int)).toNat [V.ref z.1]).flatten = rz (List.replicate k z) := by
  rw [Int.toNat_natCast]
  unfold rz
  rw [List.map_replicate]
  induction k with
  | zero => rfl
  | succ k ih =>
    rw [List.replicate_succ, List.flatten_cons, ih, List.replicate_succ] <;> rfl
theorem zsum_rep (k : Nat) : zsum (List.replicate k (0 : Rat)) = 0 := by
  induction k with
  | zero => rfl
  | succ k ih =>
    rw [List.replicate_succ]
    show 0 + zsum (List.replicate k 0) = 0
    rw [ih, Rat.add_zero]
/-- what of drips goes where, as it is drawn -/
structure GoOk (K : PySem.W.Frag) (H : Hp) (k : Nat) (l : List Fz) : Prop where
  fl : FL K H l
  len : l.length = k
  pa : ∀ z ∈ l, Part z.2
  one : zsum (l.map (·.2)) ≤ 1
theorem GoOk.same {K : PySem.W.Frag} {H H' : Hp} {k : Nat} {l : List Fz} (h : GoOk K H k l) (s : Same H H') : GoOk K H' k l := ⟨h.fl.same s, h.len, h.pa, h.one⟩
theorem GoOk.fr {K : PySem.W.Frag} {H H' : Hp} {k n : Nat} {p : Addr} {l : List Fz} (h : GoOk K H k l) (B : BoxAt H p n) (f : Fr p H H') : GoOk K H' k l := ⟨h.fl.fr B f, h.len, h.pa, h.one⟩
theorem mem_q {l : List Fz} {P : Rat → Prop} (h : ∀ z ∈ l, P z.2) : ∀ q ∈ l.map (·.2), P q := fun q hq => by
  obtain ⟨z, hz, rfl⟩ := List.mem_map.mp hq
  exact h z hz
theorem mem_set {l : List Fz} {i : Nat} {z y : Fz} (h : y ∈ l.set i z) : y ∈ l ∨ y = z := List.mem_or_eq_of_mem_set h
theorem rz_take (l : List Fz) (n : Nat) : (rz l).take n = rz (l.take n) := by
  unfold rz
  rw [List.map_take]
theorem rz_drop (l : List Fz) (n : Nat) : (rz l).drop n = rz (l.drop n) := by
  unfold rz
  rw [List.map_drop]
theorem rz_app (l m : List Fz) : rz (l ++ m) = rz l ++ rz m := by
  unfold rz
  rw [List.map_append]
theorem fr_new {p c : Addr} {H H' : Hp} (F : Fr p H H') (n : H' c = none) (ne : c ≠ p) : H c = none := by
  cases e : H c with
  | none => rfl
  | some o =>
    have k := F _ _ ne e
    rw [n] at k
    cases k
theorem goes_sum {l : List Fz} {an : Nat} {y : Fz} {d : Addr} {bt lf tp : Int} (ga : l[an]? = some y) (y0 : y.2 = 0) (inv : zsum (l.map (·.2)) * ((bt : Int) : Rat) = ((bt - lf : Int) : Rat)) (t0 : 0 ≤ tp) (t1 : tp ≤ lf) (lf1 : lf ≤ bt) (b0 : 0 < bt) :
    zsum ((l.set an (d, rq tp bt)).map (·.2)) * ((bt : Int) : Rat) = ((bt - (lf - tp) : Int) : Rat) ∧ zsum ((l.set an (d, rq tp bt)).map (·.2)) ≤ 1 := by
  have e : (l.set an (d, rq tp bt)).map (·.2) = (l.map (·.2)).set an (rq tp bt) := by rw [List.map_set]
  have k := zsum_set (rq tp bt) (rz_q ga)
  rw [e, k, y0]
  have hb := int_ne (show bt ≠ 0 by omega)
  have er : rq tp bt * (bt : Rat) = (tp : Rat) := by
    unfold rq
    generalize (tp : Rat) = x
    generalize (bt : Rat) = z at *
    grind
  have e1 : (zsum (l.map (·.2)) - 0 + rq tp bt) * (bt : Rat) = ((bt - (lf - tp) : Int) : Rat) := by
    rw [Rat.intCast_sub] at inv
    rw [Rat.intCast_sub, Rat.intCast_sub]
    generalize zsum (l.map (·.2)) = s at *
    generalize rq tp bt = r at *
    generalize (tp : Rat) = x at *
    generalize (bt : Rat) = z at *
    generalize (lf : Rat) = w at *
    grind
  refine ⟨e1, ?_⟩
  have bp := cast_pos b0
  have le : ((bt - (lf - tp) : Int) : Rat) ≤ ((bt : Int) : Rat) := Rat.intCast_le_intCast.mpr (by omega)
  refine Rat.not_lt.mp fun z => ?_
  have m := Rat.mul_lt_mul_of_pos_right z bp
  rw [e1, Rat.one_mul] at m
  exact absurd le (Rat.not_le.mpr m)
/-- a kind: where it stands, what it tells -/
structure Kn where
  a : Addr
  d : Addr
  g : Addr
  fresh : Int
  drip : Rat
  goes : List Fz
structure KnOk (K : PySem.W.Frag) (H : Hp) (n : Nat) (k : Kn) : Prop where
  at_ : SqT K H k.a [.int k.fresh, .ref k.d, .ref k.g]
  dr : FrQ K H k.d k.drip
  gs : SqT K H k.g (rz k.goes)
  go : GoOk K H n k.goes
  pd : Part k.drip
  f0 : 0 ≤ k.fresh
  f1 : k.fresh ≤ 1000000
def KnL (K : PySem.W.Frag) (H : Hp) (n : Nat) (ks : List Kn) : Prop := ∀ k ∈ ks, KnOk K H n k
def rk (ks : List Kn) : List V := ks.map fun k => V.ref k.a
theorem rk_len (l : List Kn) : (rk l).length = l.length := List.length_map _
theorem rk_get {l : List Kn} {i : Nat} {x : V} (h : (rk l)[i]? = some x) : ∃ k, l[i]? = some k ∧ x = .ref k.a := by
  unfold rk at h
  rw [List.getElem?_map] at h
  cases e : l[i]? with
  | none =>
    rw [e] at h
    cases h
  | some k =>
    rw [e] at h
    exact ⟨k, rfl, (Option.some.inj h).symm⟩
theorem KnOk.same {K : PySem.W.Frag} {H H' : Hp} {n : Nat} {k : Kn} (h : KnOk K H n k) (s : Same H H') : KnOk K H' n k := ⟨Same.tup s h.at_, h.dr.same s, Same.tup s h.gs, h.go.same s, h.pd, h.f0, h.f1⟩
theorem KnOk.fr {K : PySem.W.Frag} {H H' : Hp} {n m : Nat} {p : Addr} {k : Kn} (h : KnOk K H n k) (B : BoxAt H p m) (f : Fr p H H') : KnOk K H' n k := ⟨sqT_fr h.at_ B f, h.dr.fr B f, sqT_fr h.gs B f, h.go.fr B f, h.pd, h.f0, h.f1⟩
theorem KnOk.put {K : PySem.W.Frag} {H : Hp} {n : Nat} {k : Kn} {q : Addr} {xs ys : List V} (h : KnOk K H n k) (hq : H q = some (.lst xs)) : KnOk K (upd H q (.lst ys)) n k :=
  ⟨sqT_frL h.at_ hq fr_upd, sqT_frL h.dr hq fr_upd, sqT_frL h.gs hq fr_upd, ⟨h.go.fl.put hq, h.go.len, h.go.pa, h.go.one⟩, h.pd, h.f0, h.f1⟩
theorem KnL.same {K : PySem.W.Frag} {H H' : Hp} {n : Nat} {ks : List Kn} (h : KnL K H n ks) (s : Same H H') : KnL K H' n ks := fun k hk => (h k hk).same s
theorem KnL.fr {K : PySem.W.Frag} {H H' : Hp} {n m : Nat} {p : Addr} {ks : List Kn} (h : KnL K H n ks) (B : BoxAt H p m) (f : Fr p H H') : KnL K H' n ks := fun k hk => (h k hk).fr B f
/-- an amount that is drawn -/
structure AmQ (q : Rat) : Prop where
  lo : 0 ≤ q
  hi : q ≤ (((10 ^ 40 : Nat) : Int) : Rat)
  bt : q.den ≤ 10 ^ 40
theorem rq_le {t b : Int} (h0 : 0 ≤ t) (hb : 1 ≤ b) : rq t b ≤ (t : Rat) := by
  have h1 := cast_pos (show 0 < b by omega)
  have h2 : ((1 : Int) : Rat) ≤ (b : Rat) := Rat.intCast_le_intCast.mpr hb
  have h3 := cast_nn h0
  unfold rq
  refine div_le h1 ?_
  have k := Rat.mul_le_mul_of_nonneg_left h2 h3
  have e : (t : Rat) * ((1 : Int) : Rat) = (t : Rat) := Rat.mul_one _
  rw [e] at k
  exact k
theorem AmQ.rq {t b : Int} (t0 : 0 ≤ t) (t1 : t ≤ 10 ^ 40) (b1 : 1 ≤ b) (b2 : b ≤ 10 ^ 40) : AmQ (KR.rq t b) := by
  refine ⟨rq_nn t0 (by omega), Rat.le_trans (rq_le t0 b1) (Rat.intCast_le_intCast.mpr (by omega)), ?_⟩
  have k := den_le (t := t) (show 0 < b by omega)
  omega
theorem AmQ.zero : AmQ 0 := ⟨Rat.le_refl, by decide, by decide⟩
/-- what a kind tells -/
structure Kq where
  fresh : Int
  drip : Rat
  goes : List Rat
def Kn.q (k : Kn) : Kq := ⟨k.fresh, k.drip, k.goes.map (·.2)⟩
def comes (ks : List Kq) (qs : List Rat) (p : Nat) : List Rat := List.zipWith (fun q k => q * k.drip * k.goes.getD p 0) qs ks
def onceAt (ks : List Kq) (qs : List Rat) (p : Nat) : Rat := (((ks.map (·.fresh)).getD p 0 : Int) : Rat) + zsum (comes ks qs p)
def onceQ (ks : List Kq) (qs : List Rat) : List Rat := (List.range ks.length).map (onceAt ks qs)
theorem once_len (ks : List Kq) (qs : List Rat) : (onceQ ks qs).length = ks.length := by
  unfold onceQ
  rw [List.length_map, List.length_range]
theorem once_get {ks : List Kq} {qs : List Rat} {i : Nat} (h : i < ks.length) : (onceQ ks qs)[i]? = some (onceAt ks qs i) := by
  unfold onceQ
  rw [List.getElem?_map, List.getElem?_range h] <;> rfl
theorem comes_get {ks : List Kq} {qs : List Rat} {p j : Nat} {q : Rat} {k : Kq} (h1 : qs[j]? = some q) (h2 : ks[j]? = some k) : (comes ks qs p)[j]? = some (q * k.drip * k.goes.getD p 0) := by
  unfold comes
  rw [List.getElem?_zipWith, h1, h2]
theorem comes_len {ks : List Kq} {qs : List Rat} {p : Nat} (h : qs.length = ks.length) : (comes ks qs p).length = ks.length := by
  unfold comes
  rw [List.length_zipWith, h, Nat.min_self]
theorem comes_mem {ks : List Kq} {qs : List Rat} {p : Nat} {r : Rat} (h : r ∈ comes ks qs p) : ∃ q ∈ qs, ∃ k ∈ ks, r = q * k.drip * k.goes.getD p 0 := by
  obtain ⟨j, hj, e⟩ := List.getElem_of_mem h
  have hj' : j < (List.zipWith (fun q (k : Kq) => q * k.drip * k.goes.getD p 0) qs ks).length := hj
  rw [List.length_zipWith] at hj'
  have a : j < qs.length := by omega
  have b : j < ks.length := by omega
  have g := comes_get (p := p) (List.getElem?_eq_getElem a) (List.getElem?_eq_getElem b)
  rw [List.getElem?_eq_getElem hj, e] at g
  exact ⟨_, List.getElem_mem a, _, List.getElem_mem b, Option.some.inj g⟩
/-- kinds as they may be -/
structure KqOk (k : Kq) : Prop where
  pd : Part k.drip
  pg : ∀ q ∈ k.goes, Part q
  f0 : 0 ≤ k.fresh
  f1 : k.fresh ≤ 1000000
theorem KnOk.q {K : PySem.W.Frag} {H : Hp} {n : Nat} {k : Kn} (h : KnOk K H n k) : KqOk k.q := ⟨h.pd, mem_q h.go.pa, h.f0, h.f1⟩
theorem KqOk.at_ {k : Kq} (h : KqOk k) (p : Nat) : Part (k.goes.getD p 0) := by
  by_cases lt : p < k.goes.length
  · rw [List.getD_eq_getElem?_getD, List.getElem?_eq_getElem lt]
    exact h.pg _ (List.getElem_mem lt)
  · rw [List.getD_eq_getElem?_getD, List.getElem?_eq_none (by omega)]
    exact Part.zero
/-- amounts that have a common bottom and a bound -/
structure AmOk (M B : Nat) (qs : List Rat) : Prop where
  dv : ∀ q ∈ qs, Dv M q
  lo : ∀ q ∈ qs, 0 ≤ q
  hi : ∀ q ∈ qs, q ≤ ((B : Int) : Rat)
  hM : 0 < M
  hB : 1 ≤ B
  fit0 : (6 * B + 1000000) * (M * 768398400) < 2 ^ 4300
section
variable {M B : Nat} {qs : List Rat}
theorem AmOk.fit (a : AmOk M B qs) : (6 * B + 1000000) * (M * 768398400) < 2 ^ 4400 := Nat.lt_of_lt_of_le a.fit0 (Nat.pow_le_pow_right (by decide) (by decide))
theorem AmOk.big (a : AmOk M B qs) {N : Nat} {q : Rat} (h : Dv N q) (d : N ∣ M * 768398400) (lo : 0 ≤ q) (hi : q ≤ ((6 * B + 1000000 : Nat) : Int)) : Big q :=
  (h.up d).szN (Nat.mul_pos a.hM (by decide)) lo hi (by omega) a.fit
theorem AmOk.up {a : AmOk M B qs} {q : Rat} (h : q ≤ ((B : Int) : Rat)) : q ≤ ((6 * B + 1000000 : Nat) : Int) := Rat.le_trans h (Rat.intCast_le_intCast.mpr (by omega))
theorem AmOk.one (a : AmOk M B qs) {q : Rat} (h : q ∈ qs) : Big q := a.big (a.dv q h) (Nat.dvd_mul_right _ _) (a.lo q h) (AmOk.up (a := a) (a.hi q h))
theorem mul_part {q r : Rat} {b : Rat} (q0 : 0 ≤ q) (qb : q ≤ b) (r0 : 0 ≤ r) (r1 : r ≤ 1) : 0 ≤ q * r ∧ q * r ≤ b := by
  have k1 := Rat.mul_nonneg q0 r0
  have k2 := Rat.mul_nonneg q0 (show 0 ≤ 1 - r by grind)
  have e : q * (1 - r) = q - q * r := by grind
  rw [e] at k2
  exact ⟨k1, by grind⟩
theorem AmOk.drips (a : AmOk M B qs) {q r : Rat} (h : q ∈ qs) (p : Part r) : Dv (M * 27720) (q * r) ∧ 0 ≤ q * r ∧ q * r ≤ ((B : Int) : Rat) :=
  ⟨(a.dv q h).mul p.dv, mul_part (a.lo q h) (a.hi q h) p.lo p.hi⟩
theorem AmOk.drips_big (a : AmOk M B qs) {q r : Rat} (h : q ∈ qs) (p : Part r) : Big (q * r) := by
  obtain ⟨d, l, u⟩ := a.drips h p
  exact a.big d ⟨27720, by rw [Nat.mul_assoc]⟩ l (AmOk.up (a := a) u)
theorem AmOk.comes (a : AmOk M B qs) {q r g : Rat} (h : q ∈ qs) (p : Part r) (pg : Part g) : Dv (M * 768398400) (q * r * g) ∧ 0 ≤ q * r * g ∧ q * r * g ≤ ((B : Int) : Rat) := by
  obtain ⟨d, l, u⟩ := a.drips h p
  have k := d.mul pg.dv
  rw [Nat.mul_assoc] at k
  exact ⟨k, mul_part l u pg.lo pg.hi⟩
theorem AmOk.comes_big (a : AmOk M B qs) {q r g : Rat} (h : q ∈ qs) (p : Part r) (pg : Part g) : Big (q * r * g) := by
  obtain ⟨d, l, u⟩ := a.comes h p pg
  exact a.big d (Nat.dvd_refl _) l (AmOk.up (a := a) u)
theorem AmOk.all (a : AmOk M B qs) {ks : List Kq} (hk : ∀ k ∈ ks, KqOk k) (p : Nat) (r : Rat) (h : r ∈ KR.comes ks qs p) : Dv (M * 768398400) r ∧ 0 ≤ r ∧ r ≤ ((B : Int) : Rat) := by
  obtain ⟨q, hq, k, hkm, rfl⟩ := comes_mem h
  exact a.comes hq (hk k hkm).pd ((hk k hkm).at_ p)
theorem AmOk.sum_le (a : AmOk M B qs) {ks : List Kq} (hk : ∀ k ∈ ks, KqOk k) (l6 : ks.length ≤ 6) (lq : qs.length = ks.length) (p : Nat) : zsum (KR.comes ks qs p) ≤ ((6 * B : Nat) : Int) := by
  have k := zsum_le (B := ((B : Int) : Rat)) fun r h => (a.all hk p r h).2.2
  rw [comes_len lq, ← Rat.intCast_mul] at k
  refine Rat.le_trans k (Rat.intCast_le_intCast.mpr ?_)
  have : ks.length * B ≤ 6 * B := Nat.mul_le_mul_right _ l6
  exact_mod_cast this
theorem AmOk.add (a : AmOk M B qs) {ks : List Kq} (hk : ∀ k ∈ ks, KqOk k) (l6 : ks.length ≤ 6) (lq : qs.length = ks.length) (p : Nat) : AddOk (KR.comes ks qs p) :=
  sum_big (M := M * 768398400) (B := 6 * B) (fun r h => (a.all hk p r h).1) (fun r h => (a.all hk p r h).2.1) (a.sum_le hk l6 lq p) (Nat.mul_pos a.hM (by decide)) (by have := a.hB; omega)
    (Nat.lt_of_le_of_lt (Nat.mul_le_mul_right _ (by omega)) a.fit)
theorem AmOk.sum_big (a : AmOk M B qs) {ks : List Kq} (hk : ∀ k ∈ ks, KqOk k) (l6 : ks.length ≤ 6) (lq : qs.length = ks.length) (p : Nat) : Big (zsum (KR.comes ks qs p)) :=
  a.big (Dv.all fun r h => (a.all hk p r h).1) (Nat.dvd_refl _) (zsum_nn fun r h => (a.all hk p r h).2.1) (Rat.le_trans (a.sum_le hk l6 lq p) (Rat.intCast_le_intCast.mpr (by omega)))
end
theorem fresh_big {z : Int} (h0 : 0 ≤ z) (h1 : z ≤ 1000000) : Big (z : Rat) := Sz.up (n := 20) (Sz.int (by omega) (by decide)) (by decide)
theorem getD_fresh {ks : List Kn} {i : Nat} {k : Kn} (h : ks[i]? = some k) : ((ks.map Kn.q).map (·.fresh)).getD i 0 = k.fresh := by
  rw [List.getD_eq_getElem?_getD, List.getElem?_map, List.getElem?_map, h] <;> rfl
theorem getD_goes {k : Kn} {i : Nat} {z : Fz} (h : k.goes[i]? = some z) : k.q.goes.getD i 0 = z.2 := by
  show (k.goes.map (·.2)).getD i 0 = z.2
  rw [List.getD_eq_getElem?_getD, rz_q h] <;> rfl
theorem kq_mem {K : PySem.W.Frag} {H : Hp} {n : Nat} {ks : List Kn} (L : KnL K H n ks) : ∀ k ∈ ks.map Kn.q, KqOk k := fun k h => by
  obtain ⟨y, hy, rfl⟩ := List.mem_map.mp h
  exact (L y hy).q
/-- what drips of each -/
def dripsQ (ks : List Kq) (qs : List Rat) : List Rat := List.zipWith (fun q k => q * k.drip) qs ks
theorem drips_get {ks : List Kq} {qs : List Rat} {j : Nat} {q : Rat} {k : Kq} (h1 : qs[j]? = some q) (h2 : ks[j]? = some k) : (dripsQ ks qs)[j]? = some (q * k.drip) := by
  unfold dripsQ
  rw [List.getElem?_zipWith, h1, h2]
theorem drips_len {ks : List Kq} {qs : List Rat} (h : qs.length = ks.length) : (dripsQ ks qs).length = ks.length := by
  unfold dripsQ
  rw [List.length_zipWith, h, Nat.min_self]
/-- what stays of each in the round -/
def keptQ (ks : List Kq) (qs : List Rat) : List Rat := List.zipWith (fun q k => q * k.drip * zsum k.goes) qs ks
theorem kept_get {ks : List Kq} {qs : List Rat} {j : Nat} {q : Rat} {k : Kq} (h1 : qs[j]? = some q) (h2 : ks[j]? = some k) : (keptQ ks qs)[j]? = some (q * k.drip * zsum k.goes) := by
  unfold keptQ
  rw [List.getElem?_zipWith, h1, h2]
theorem kept_len {ks : List Kq} {qs : List Rat} (h : qs.length = ks.length) : (keptQ ks qs).length = ks.length := by
  unfold keptQ
  rw [List.length_zipWith, h, Nat.min_self]
theorem kept_mem {ks : List Kq} {qs : List Rat} {r : Rat} (h : r ∈ keptQ ks qs) : ∃ q ∈ qs, ∃ k ∈ ks, r = q * k.drip * zsum k.goes := by
  obtain ⟨j, hj, e⟩ := List.getElem_of_mem h
  have hj' : j < (List.zipWith (fun q (k : Kq) => q * k.drip * zsum k.goes) qs ks).length := hj
  rw [List.length_zipWith] at hj'
  have g := kept_get (List.getElem?_eq_getElem (show j < qs.length by omega)) (List.getElem?_eq_getElem (show j < ks.length by omega))
  rw [List.getElem?_eq_getElem hj, e] at g
  exact ⟨_, List.getElem_mem _, _, List.getElem_mem _, Option.some.inj g⟩
theorem zsum_add {α : Type} (f g : α → Rat) (l : List α) : zsum (l.map fun x => f x + g x) = zsum (l.map f) + zsum (l.map g) := by
  induction l with
  | nil => exact (Rat.add_zero 0).symm
  | cons x r ih =>
    show f x + g x + zsum (r.map fun x => f x + g x) = f x + zsum (r.map f) + (g x + zsum (r.map g))
    rw [ih]
    grind
theorem zsum_mul {α : Type} (c : Rat) (f : α → Rat) (l : List α) : zsum (l.map fun x => c * f x) = c * zsum (l.map f) := by
  induction l with
  | nil => exact (Rat.mul_zero c).symm
  | cons x r ih =>
    show c * f x + zsum (r.map fun x => c * f x) = c * (f x + zsum (r.map f))
    rw [ih]
    grind
theorem zsum_nil {α : Type} (l : List α) : zsum (l.map fun _ => (0 : Rat)) = 0 := by
  induction l with
  | nil => rfl
  | cons x r ih =>
    show 0 + zsum (r.map fun _ => (0 : Rat)) = 0
    rw [ih, Rat.add_zero]
theorem range_getD (l : List Rat) : (List.range l.length).map (fun p => l.getD p 0) = l := by
  refine List.ext_getElem (by rw [List.length_map, List.length_range]) fun i h1 h2 => ?_
  rw [List.getElem_map, List.getElem_range, List.getD_eq_getElem?_getD, List.getElem?_eq_getElem h2] <;> rfl
theorem comes_sum (n : Nat) : ∀ (ks : List Kq) (qs : List Rat), (∀ k ∈ ks, k.goes.length = n) → zsum ((List.range n).map fun p => zsum (comes ks qs p)) = zsum (keptQ ks qs)
  | [], qs, _ => by
    have e : ∀ p, comes [] qs p = [] := fun p => by
      unfold comes
      cases qs <;> rfl
    have e2 : keptQ [] qs = [] := by
      unfold keptQ
      cases qs <;> rfl
    rw [e2]
    simp only [e]
    exact zsum_nil _
  | k :: ks, [], _ => by
    have e : ∀ p, comes (k :: ks) [] p = [] := fun p => rfl
    simp only [e]
    exact zsum_nil _
  | k :: ks, q :: qs, h => by
    have ih := comes_sum n ks qs fun y hy => h y (List.mem_cons_of_mem _ hy)
    have e : ∀ p, zsum (comes (k :: ks) (q :: qs) p) = q * k.drip * k.goes.getD p 0 + zsum (comes ks qs p) := fun p => rfl
    simp only [e]
    rw [zsum_add, ih, zsum_mul]
    have hk := h k List.mem_cons_self
    have eg := range_getD k.goes
    rw [hk] at eg
    rw [eg] <;> rfl
theorem isum_cast (l : List Int) : zsum (l.map fun z : Int => (z : Rat)) = ((l.sum : Int) : Rat) := by
  induction l with
  | nil => rfl
  | cons z r ih =>
    show (z : Rat) + zsum (r.map fun z : Int => (z : Rat)) = _
    rw [ih, List.sum_cons, Rat.intCast_add]
theorem once_sum {ks : List Kq} {qs : List Rat} (hg : ∀ k ∈ ks, k.goes.length = ks.length) : zsum (onceQ ks qs) = zsum (keptQ ks qs) + (((ks.map (·.fresh)).sum : Int) : Rat) := by
  unfold onceQ onceAt
  rw [zsum_add, comes_sum _ ks qs hg, Rat.add_comm]
  congr 1
  rw [← isum_cast]
  congr 1
  refine List.ext_getElem (by rw [List.length_map, List.length_range, List.length_map, List.length_map]) fun i h1 h2 => ?_
  have hi : i < ks.length := by
    rw [List.length_map, List.length_range] at h1
    exact h1
  rw [List.getElem_map, List.getElem_range, List.getElem_map, List.getD_eq_getElem?_getD, List.getElem?_eq_getElem (by rw [List.length_map]; exact hi)] <;> rfl
section
variable {M B : Nat} {qs : List Rat}
theorem AmOk.kept (a : AmOk M B qs) {q r : Rat} {g : List Rat} (h : q ∈ qs) (p : Part r) (pg : ∀ x ∈ g, Part x) (g1 : zsum g ≤ 1) : Dv (M * 768398400) (q * r * zsum g) ∧ 0 ≤ q * r * zsum g ∧ q * r * zsum g ≤ ((B : Int) : Rat) := by
  obtain ⟨d, l, u⟩ := a.drips h p
  have k := d.mul (Dv.all fun x hx => (pg x hx).dv)
  rw [Nat.mul_assoc] at k
  exact ⟨k, mul_part l u (zsum_nn fun x hx => (pg x hx).lo) g1⟩
theorem AmOk.once (a : AmOk M B qs) {ks : List Kq} (hk : ∀ k ∈ ks, KqOk k) (l6 : ks.length ≤ 6) (lq : qs.length = ks.length) (r : Rat) (h : r ∈ onceQ ks qs) : Dv (M * 768398400) r ∧ 0 ≤ r ∧ r ≤ ((6 * B + 1000000 : Nat) : Int) := by
  unfold onceQ at h
  obtain ⟨p, hp, rfl⟩ := List.mem_map.mp h
  have fr : 0 ≤ (ks.map (·.fresh)).getD p 0 ∧ (ks.map (·.fresh)).getD p 0 ≤ 1000000 := by
    rw [List.getD_eq_getElem?_getD, List.getElem?_map]
    cases e : ks[p]? with
    | none => exact ⟨by decide, by decide⟩
    | some k =>
      have m := List.mem_of_getElem? e
      exact ⟨(hk k m).f0, (hk k m).f1⟩
  have c1 := Dv.all fun r h => (a.all hk p r h).1
  have c2 := zsum_nn fun r h => (a.all hk p r h).2.1
  have c3 := a.sum_le hk l6 lq p
  have f0 := cast_nn fr.1
  have f1 : (((ks.map (·.fresh)).getD p 0 : Int) : Rat) ≤ ((1000000 : Int) : Rat) := Rat.intCast_le_intCast.mpr fr.2
  refine ⟨(Dv.int _).add c1, ?_, ?_⟩
  · unfold onceAt
    grind
  · have e : ((6 * B + 1000000 : Nat) : Int) = ((6 * B : Nat) : Int) + (1000000 : Int) := by omega
    unfold onceAt
    rw [e, Rat.intCast_add]
    grind
theorem AmOk.once_big (a : AmOk M B qs) {ks : List Kq} (hk : ∀ k ∈ ks, KqOk k) (l6 : ks.length ≤ 6) (lq : qs.length = ks.length) (r : Rat) (h : r ∈ onceQ ks qs) : Big r := by
  obtain ⟨d, l, u⟩ := a.once hk l6 lq r h
  exact a.big d (Nat.dvd_refl _) l u
/-- several of them together -/
theorem AmOk.many (a : AmOk M B qs) {l : List Rat} (h : ∀ r ∈ l, Dv (M * 768398400) r ∧ 0 ≤ r ∧ r ≤ ((6 * B + 1000000 : Nat) : Int)) (len : l.length ≤ 20) : AddOk l ∧ Dv (M * 768398400) (zsum l) ∧ 0 ≤ zsum l ∧ Big (zsum l) := by
  have s : zsum l ≤ ((20 * (6 * B + 1000000) : Nat) : Int) := by
    have k := zsum_le fun r hr => (h r hr).2.2
    rw [← Rat.intCast_mul] at k
    refine Rat.le_trans k (Rat.intCast_le_intCast.mpr ?_)
    have : l.length * (6 * B + 1000000) ≤ 20 * (6 * B + 1000000) := Nat.mul_le_mul_right _ len
    exact_mod_cast this
  have fit : 20 * (6 * B + 1000000) * (M * 768398400) < 2 ^ 4400 := by
    have k := a.fit0
    rw [Nat.mul_assoc]
    have e : (2 : Nat) ^ 4400 = 2 ^ 100 * 2 ^ 4300 := by rw [← Nat.pow_add]
    rw [e]
    exact Nat.lt_of_lt_of_le (Nat.mul_lt_mul_of_pos_left k (by decide)) (Nat.mul_le_mul_right _ (by decide))
  have pos := Nat.mul_pos a.hM (show 0 < 768398400 by decide)
  have d := Dv.all fun r hr => (h r hr).1
  have nn := zsum_nn fun r hr => (h r hr).2.1
  exact ⟨KR.sum_big (fun r hr => (h r hr).1) (fun r hr => (h r hr).2.1) s pos (by omega) fit, d, nn, d.szN pos nn s (by omega) fit⟩
end
/-- all bottoms together -/
def prodD : List Rat → Nat
  | [] => 1
  | q :: r => q.den * prodD r
theorem prodD_pos : ∀ l : List Rat, 0 < prodD l
  | [] => Nat.one_pos
  | q :: r => Nat.mul_pos q.den_pos (prodD_pos r)
theorem prodD_dvd : ∀ {l : List Rat} {q : Rat}, q ∈ l → q.den ∣ prodD l
  | x :: r, q, h => by
    rcases List.mem_cons.mp h with e | e
    · rw [e]
      exact Nat.dvd_mul_right _ _
    · exact Nat.dvd_trans (prodD_dvd e) (Nat.dvd_mul_left _ _)
theorem prodD_lt : ∀ {l : List Rat}, (∀ q ∈ l, q.den ≤ 10 ^ 40) → prodD l ≤ (10 ^ 40) ^ l.length
  | [], _ => Nat.le_refl _
  | q :: r, h => by
    have ih := prodD_lt (l := r) fun y hy => h y (List.mem_cons_of_mem _ hy)
    rw [List.length_cons, Nat.pow_succ, Nat.mul_comm ((10 ^ 40) ^ r.length)]
    exact Nat.mul_le_mul (h q List.mem_cons_self) ih
theorem am_ok {qs : List Rat} (h : ∀ q ∈ qs, AmQ q) (len : qs.length ≤ 6) : AmOk (prodD qs) (10 ^ 40) qs where
  dv := fun q hq => (Dv.den q).up (prodD_dvd hq)
  lo := fun q hq => (h q hq).lo
  hi := fun q hq => (h q hq).hi
  hM := prodD_pos qs
  hB := by decide
  fit0 := by
    have k := prodD_lt fun q hq => (h q hq).bt
    have k2 : prodD qs ≤ (10 ^ 40) ^ 6 := Nat.le_trans k (Nat.pow_le_pow_right (by decide) len)
    refine Nat.lt_of_le_of_lt (Nat.mul_le_mul_left _ (Nat.mul_le_mul_right _ k2)) (Nat.lt_of_lt_of_le (by decide : (6 * 10 ^ 40 + 1000000) * ((10 ^ 40) ^ 6 * 768398400) < 2 ^ 1000) (Nat.pow_le_pow_right (by decide) (by decide)))
/-! data -/
def dkn (k : Kn) : PyData := .tuple [.int k.fresh, dq k.drip, .tuple (k.goes.map fun z => dq z.2)]
theorem FL.dps {K : PySem.W.Frag} {H : Hp} : ∀ {l : List Fz}, FL K H l → DpAll K H (rz l) (l.map fun z => dq z.2)
  | [], _ => .nil
  | z :: r, h => .cons (h z List.mem_cons_self).dp (FL.dps fun y hy => h y (List.mem_cons_of_mem _ hy))
theorem KnOk.dp {K : PySem.W.Frag} {H : Hp} {n : Nat} {k : Kn} (h : KnOk K H n k) : Dp K H (.ref k.a) (dkn k) := .tup h.at_ (.cons (.int _) (.cons h.dr.dp (.cons (.tup h.gs h.go.fl.dps) .nil)))
theorem KnL.dps {K : PySem.W.Frag} {H : Hp} {n : Nat} : ∀ {ks : List Kn}, KnL K H n ks → DpAll K H (rk ks) (ks.map dkn)
  | [], _ => .nil
  | z :: r, h => .cons (h z List.mem_cons_self).dp (KnL.dps fun y hy => h y (List.mem_cons_of_mem _ hy))
/-- data that can be compared -/
def Flat (m : Nat) (d : PyData) : Prop := PyData.canLay0 d = true ∧ PyData.depth d ≤ m
theorem flat_all {m : Nat} : ∀ {ds : List PyData}, (∀ d ∈ ds, Flat m d) → PyData.canLayAll0 ds = true ∧ PyData.depthAll ds ≤ m
  | [], _ => ⟨rfl, Nat.zero_le _⟩
  | d :: r, h => by
    obtain ⟨h1, h2⟩ := h d List.mem_cons_self
    obtain ⟨i1, i2⟩ := flat_all (ds := r) fun y hy => h y (List.mem_cons_of_mem _ hy)
    refine ⟨?_, Nat.max_le.mpr ⟨h2, i2⟩⟩
    show (PyData.canLay0 d && PyData.canLayAll0 r) = true
    rw [h1, i1] <;> rfl
theorem flat_list {m : Nat} {ds : List PyData} (h : ∀ d ∈ ds, Flat m d) : Flat (m + 1) (.list ds) := ⟨(flat_all h).1, Nat.succ_le_succ (flat_all h).2⟩
theorem flat_tup {m : Nat} {ds : List PyData} (h : ∀ d ∈ ds, Flat m d) : Flat (m + 1) (.tuple ds) := ⟨(flat_all h).1, Nat.succ_le_succ (flat_all h).2⟩
theorem flat_shaped {m : Nat} {d : PyData} (h : Flat m d) (le : m ≤ 64) : SeqAt.shaped d = true := by
  show (PyData.canLay0 d && decide (PyData.depth d ≤ 64)) = true
  rw [h.1, decide_eq_true (Nat.le_trans h.2 le)] <;> rfl
theorem flat_q (q : Rat) : Flat 1 (dq q) := ⟨rfl, Nat.le_refl _⟩
theorem flat_up {m n : Nat} {d : PyData} (h : Flat m d) (le : m ≤ n) : Flat n d := ⟨h.1, Nat.le_trans h.2 le⟩
theorem flat_qs (l : List Fz) : ∀ d ∈ (l.map fun z => dq z.2), Flat 1 d := fun d hd => by
  obtain ⟨z, _, rfl⟩ := List.mem_map.mp hd
  exact flat_q z.2
theorem flat_kn (k : Kn) : Flat 3 (dkn k) := flat_tup fun d hd => by
  simp only [List.mem_cons, List.not_mem_nil, or_false] at hd
  rcases hd with rfl | rfl | rfl
  · exact ⟨rfl, by show 0 ≤ 2; decide⟩
  · exact flat_up (flat_q _) (by decide)
  · exact flat_tup (flat_qs _)
theorem flat_kns (ks : List Kn) : ∀ d ∈ ks.map dkn, Flat 3 d := fun d hd => by
  obtain ⟨k, _, rfl⟩ := List.mem_map.mp hd
  exact flat_kn k
/-- kinds and amounts beside one another -/
def dka (ks : List Kn) (am : List Fz) : PyData := .list [.list (ks.map dkn), .list (am.map fun z => dq z.2)]
theorem dka_shaped (ks : List Kn) (am : List Fz) : SeqAt.shaped (dka ks am) = true := flat_shaped (m := 5) (flat_list fun d hd => by
  simp only [List.mem_cons, List.not_mem_nil, or_false] at hd
  rcases hd with rfl | rfl
  · exact flat_list (flat_kns ks)
  · exact flat_up (flat_list (flat_qs am)) (by decide)) (by decide)
/-- what doesn't drip of each; what is sold of each -/
def loavesQ (ks : List Kq) (qs : List Rat) : List Rat := List.zipWith (fun q k => q - q * k.drip) qs ks
def soldQ (ks : List Kq) (qs : List Rat) : List Rat := List.zipWith (fun q k => q * k.drip * (1 - zsum k.goes)) qs ks
theorem zw_get {f : Rat → Kq → Rat} {ks : List Kq} {qs : List Rat} {j : Nat} {q : Rat} {k : Kq} (h1 : qs[j]? = some q) (h2 : ks[j]? = some k) : (List.zipWith f qs ks)[j]? = some (f q k) := by
  rw [List.getElem?_zipWith, h1, h2]
theorem zw_len {f : Rat → Kq → Rat} {ks : List Kq} {qs : List Rat} (h : qs.length = ks.length) : (List.zipWith f qs ks).length = ks.length := by
  rw [List.length_zipWith, h, Nat.min_self]
theorem zw_mem {f : Rat → Kq → Rat} {ks : List Kq} {qs : List Rat} {r : Rat} (h : r ∈ List.zipWith f qs ks) : ∃ q ∈ qs, ∃ k ∈ ks, r = f q k := by
  obtain ⟨j, hj, e⟩ := List.getElem_of_mem h
  have hj' := hj
  rw [List.length_zipWith] at hj'
  have g := zw_get (f := f) (List.getElem?_eq_getElem (show j < qs.length by omega)) (List.getElem?_eq_getElem (show j < ks.length by omega))
  rw [List.getElem?_eq_getElem hj, e] at g
  exact ⟨_, List.getElem_mem _, _, List.getElem_mem _, Option.some.inj g⟩
theorem all_parts : ∀ (ks : List Kq) (qs : List Rat), qs.length = ks.length → zsum (keptQ ks qs) + zsum (loavesQ ks qs ++ soldQ ks qs) = zsum qs
  | [], [], _ => by
    show (0 : Rat) + 0 = 0
    exact Rat.add_zero 0
  | k :: ks, q :: qs, h => by
    have ih := all_parts ks qs (Nat.succ.inj h)
    have e1 : zsum (keptQ (k :: ks) (q :: qs)) = q * k.drip * zsum k.goes + zsum (keptQ ks qs) := rfl
    have e2 : zsum (loavesQ (k :: ks) (q :: qs)) = q - q * k.drip + zsum (loavesQ ks qs) := rfl
    have e3 : zsum (soldQ (k :: ks) (q :: qs)) = q * k.drip * (1 - zsum k.goes) + zsum (soldQ ks qs) := rfl
    have e4 : zsum (q :: qs) = q + zsum qs := rfl
    rw [zsum_app] at ih ⊢
    rw [e1, e2, e3, e4, ← ih]
    grind
  | [], _ :: _, h => by simp at h
  | _ :: _, [], h => by simp at h
section
variable {M B : Nat} {qs : List Rat}
theorem AmOk.loaf (a : AmOk M B qs) {q r : Rat} (h : q ∈ qs) (p : Part r) : Dv (M * 768398400) (q - q * r) ∧ 0 ≤ q - q * r ∧ q - q * r ≤ ((B : Int) : Rat) := by
  obtain ⟨d, l, u⟩ := a.drips h p
  have d1 := a.dv q h
  have k := mul_part (a.lo q h) Rat.le_refl p.lo p.hi
  have hi := a.hi q h
  exact ⟨(d1.up (Nat.dvd_mul_right _ _)).sub (d.up ⟨27720, by rw [Nat.mul_assoc]⟩), by grind, by grind⟩
theorem AmOk.sold (a : AmOk M B qs) {q r : Rat} {g : List Rat} (h : q ∈ qs) (p : Part r) (pg : ∀ x ∈ g, Part x) (g1 : zsum g ≤ 1) : Dv (M * 768398400) (q * r * (1 - zsum g)) ∧ 0 ≤ q * r * (1 - zsum g) ∧ q * r * (1 - zsum g) ≤ ((B : Int) : Rat) := by
  obtain ⟨d, l, u⟩ := a.drips h p
  have g0 := zsum_nn fun x hx => (pg x hx).lo
  have k := d.mul ((Dv.int (M := 27720) 1).sub (Dv.all fun x hx => (pg x hx).dv))
  rw [Nat.mul_assoc] at k
  exact ⟨k, mul_part l u (show (0 : Rat) ≤ 1 - zsum g by grind) (show 1 - zsum g ≤ 1 by grind)⟩
end
/-- the rest of a part -/
theorem rest_frac (d : Rat) : (1 - d).num = (d.den : Int) - d.num ∧ ((1 - d).den : Int) = (d.den : Int) := by
  have hb := den_ne' d
  have lo := rat_low d
  have low2 : IsLow ((d.den : Int) - d.num) (d.den : Int) := ⟨lo.pos, by
    have c := lo.cop
    rw [Int.natAbs_natCast] at c ⊢
    have h1 : ((Nat.gcd ((d.den : Int) - d.num).natAbs d.den : Nat) : Int) ∣ (d.den : Int) - d.num := Int.ofNat_dvd_left.mpr (Nat.gcd_dvd_left _ _)
    have h2 : ((Nat.gcd ((d.den : Int) - d.num).natAbs d.den : Nat) : Int) ∣ (d.den : Int) := Int.ofNat_dvd_left.mpr (by rw [Int.natAbs_natCast]; exact Nat.gcd_dvd_right _ _)
    have h3 := Int.dvd_sub h2 h1
    rw [show (d.den : Int) - ((d.den : Int) - d.num) = d.num by omega] at h3
    have h4 := Nat.dvd_gcd (Int.ofNat_dvd_left.mp h3) (Nat.gcd_dvd_right ((d.den : Int) - d.num).natAbs d.den)
    rw [c] at h4
    exact Nat.dvd_one.mp h4⟩
  have er : rq ((d.den : Int) - d.num) (d.den : Int) = 1 - d := by
    have k := rat_nd d
    have h1 := den_ne d
    unfold rq
    rw [Rat.intCast_sub]
    generalize ((d.den : Int) : Rat) = y at *
    generalize (d.num : Rat) = x at *
    rw [← k]
    grind
  have l1 := rq_low (t := (d.den : Int) - d.num) hb
  have l2 := low_eq hb low2 rfl
  rw [l1, er] at l2
  exact ⟨congrArg Prod.fst l2, congrArg Prod.snd l2⟩
theorem rq_rest (d : Rat) : rq ((d.den : Int) - d.num) (d.den : Int) = 1 - d := by
  have k := rat_nd d
  have h1 := den_ne d
  unfold rq
  rw [Rat.intCast_sub]
  generalize ((d.den : Int) : Rat) = y at *
  generalize (d.num : Rat) = x at *
  rw [← k]
  grind
theorem rest_at {K : PySem.W.Frag} {H : Hp} {t : Addr} {d : Rat} (h : H t = some (.tup [.int ((d.den : Int) - d.num), .int (d.den : Int)])) : FrQ K H t (1 - d) := by
  obtain ⟨e1, e2⟩ := rest_frac d
  exact .of (by rw [e1, e2]; exact h)
theorem rest_part {d : Rat} (h : Part d) : Part (1 - d) := by
  refine ⟨?_, ?_, ?_⟩
  · have := h.hi
    grind
  · have := h.lo
    grind
  · have k := (rest_frac d).2
    have b := h.bt
    omega
theorem same_none {H H' : Hp} {a : Addr} (s : Same H H') (n : H' a = none) : H a = none := by
  cases e : H a with
  | none => rfl
  | some o =>
    have k := s _ _ e
    rw [n] at k
    cases k
theorem fresh_sum {K : PySem.W.Frag} {H : Hp} {n : Nat} {ks : List Kn} (L : KnL K H n ks) : 0 ≤ (ks.map (·.fresh)).sum ∧ (ks.map (·.fresh)).sum ≤ 1000000 * (ks.length : Int) := by
  have all : ∀ l : List Kn, (∀ k ∈ l, 0 ≤ k.fresh ∧ k.fresh ≤ 1000000) → 0 ≤ (l.map (·.fresh)).sum ∧ (l.map (·.fresh)).sum ≤ 1000000 * (l.length : Int) := fun l => by
    induction l with
    | nil => exact fun _ => ⟨Int.le_refl _, Int.le_refl _⟩
    | cons k r ih =>
      intro h
      have h1 := h k List.mem_cons_self
      have h2 := ih fun y hy => h y (List.mem_cons_of_mem _ hy)
      rw [List.map_cons, List.sum_cons, List.length_cons]
      omega
  exact all ks fun k hk => ⟨(L k hk).f0, (L k hk).f1⟩
theorem sum_parts_big {l : List Fz} (pa : ∀ z ∈ l, Part z.2) (gl : l.length ≤ 7) : Big (zsum (l.map (·.2))) := by
  have k := parts_add (mem_q pa) (by rw [List.length_map]; exact gl) (l.map (·.2)).length (Nat.le_refl _)
  rw [List.take_length] at k
  exact k
theorem rest_sum_big {l : List Fz} (pa : ∀ z ∈ l, Part z.2) (one : zsum (l.map (·.2)) ≤ 1) : Big (1 - zsum (l.map (·.2))) := by
  have d := (Dv.int (M := 27720) 1).sub (Dv.all fun x hx => (mem_q pa x hx).dv)
  have g0 := zsum_nn fun x hx => (mem_q pa x hx).lo
  exact Dv.szN (B := 1) d (by decide) (show (0 : Rat) ≤ 1 - _ by grind) (show (1 : Rat) - _ ≤ ((1 : Int) : Rat) by have : ((1 : Int) : Rat) = 1 := rfl; grind) (by decide) (Nat.lt_of_lt_of_le (by decide : 1 * 27720 < 2 ^ 20) (Nat.pow_le_pow_right (by decide) (by decide)))
/-- round after round -/
def roundsQ (ks : List Kq) : Nat → List Rat → List Rat
  | 0, qs => qs
  | r + 1, qs => onceQ ks (roundsQ ks r qs)
theorem rounds_len {ks : List Kq} {qs : List Rat} (h : qs.length = ks.length) : ∀ r, (roundsQ ks r qs).length = ks.length
  | 0 => h
  | r + 1 => once_len _ _
theorem rounds_add (ks : List Kq) (qs : List Rat) (b : Nat) : ∀ a, roundsQ ks a (roundsQ ks b qs) = roundsQ ks (a + b) qs
  | 0 => by rw [Nat.zero_add] <;> rfl
  | a + 1 => by
    rw [Nat.add_right_comm]
    show onceQ ks (roundsQ ks a (roundsQ ks b qs)) = onceQ ks (roundsQ ks (a + b) qs)
    rw [rounds_add ks qs b a]
def bR (B : Nat) : Nat → Nat
  | 0 => B
  | r + 1 => 6 * bR B r + 1000000
theorem bR_mono (B : Nat) : ∀ {a b : Nat}, a ≤ b → bR B a ≤ bR B b
  | a, 0, h => by rw [Nat.le_zero.mp h]; exact Nat.le_refl _
  | a, b + 1, h => by
    rcases Nat.lt_or_ge a (b + 1) with l | l
    · have k := bR_mono B (show a ≤ b by omega)
      show _ ≤ 6 * bR B b + 1000000
      omega
    · rw [show a = b + 1 by omega]
      exact Nat.le_refl _
theorem bR_pos {B : Nat} (h : 1 ≤ B) (r : Nat) : 1 ≤ bR B r := Nat.le_trans h (bR_mono B (Nat.zero_le r))
/-- amounts that may be walked on so many rounds -/
theorem rounds_ok {M B N : Nat} {ks : List Kq} {qs : List Rat} (hk : ∀ k ∈ ks, KqOk k) (l6 : ks.length ≤ 6) (lq : qs.length = ks.length) (dv : ∀ q ∈ qs, Dv M q) (lo : ∀ q ∈ qs, 0 ≤ q) (hi : ∀ q ∈ qs, q ≤ ((B : Int) : Rat)) (hM : 0 < M) (hB : 1 ≤ B)
    (fit : (6 * bR B N + 1000000) * (M * 768398400 ^ (N + 1)) < 2 ^ 4300) : ∀ r, r ≤ N → AmOk (M * 768398400 ^ r) (bR B r) (roundsQ ks r qs) := by
  have fitr : ∀ r, r ≤ N → (6 * bR B r + 1000000) * (M * 768398400 ^ r * 768398400) < 2 ^ 4300 := fun r hr => by
    refine Nat.lt_of_le_of_lt (Nat.mul_le_mul ?_ ?_) fit
    · have := bR_mono B hr
      omega
    · rw [Nat.mul_assoc, ← Nat.pow_succ]
      exact Nat.mul_le_mul_left _ (Nat.pow_le_pow_right (by decide) (by omega))
  intro r
  induction r with
  | zero =>
    intro h
    exact ⟨fun q hq => by rw [Nat.pow_zero, Nat.mul_one]; exact dv q hq, lo, hi, Nat.mul_pos hM (Nat.pow_pos (by decide)), hB, fitr 0 h⟩
  | succ r ih =>
    intro h
    have a := ih (by omega)
    have k := a.once hk l6 (rounds_len lq r)
    refine ⟨fun q hq => ?_, fun q hq => (k q hq).2.1, fun q hq => (k q hq).2.2, Nat.mul_pos hM (Nat.pow_pos (by decide)), bR_pos hB _, fitr _ h⟩
    have e := (k q hq).1
    rw [Nat.mul_assoc, ← Nat.pow_succ] at e
    exact e
structure AmS (q : Rat) : Prop where
  lo : 0 ≤ q
  hi : q ≤ ((1000 : Int) : Rat)
  bt : q.den ≤ 60
theorem AmS.rq {t b : Int} (t0 : 0 ≤ t) (t1 : t ≤ 1000) (b1 : 1 ≤ b) (b2 : b ≤ 60) : AmS (KR.rq t b) := by
  refine ⟨rq_nn t0 (by omega), Rat.le_trans (rq_le t0 b1) (Rat.intCast_le_intCast.mpr (by omega)), ?_⟩
  have k := den_le (t := t) (show 0 < b by omega)
  omega
theorem prodD_60 : ∀ {l : List Rat}, (∀ q ∈ l, q.den ≤ 60) → prodD l ≤ 60 ^ l.length
  | [], _ => Nat.le_refl _
  | q :: r, h => by
    have ih := prodD_60 (l := r) fun y hy => h y (List.mem_cons_of_mem _ hy)
    rw [List.length_cons, Nat.pow_succ, Nat.mul_comm (60 ^ r.length)]
    exact Nat.mul_le_mul (h q List.mem_cons_self) ih
theorem am_rounds {ks : List Kq} {qs : List Rat} (hk : ∀ k ∈ ks, KqOk k) (l6 : ks.length ≤ 6) (lq : qs.length = ks.length) (h : ∀ q ∈ qs, AmS q) (r : Nat) (hr : r ≤ 40) : ∃ M B, AmOk M B (roundsQ ks r qs) := by
  have k := prodD_60 fun q hq => (h q hq).bt
  have k2 : prodD qs ≤ 60 ^ 6 := Nat.le_trans k (Nat.pow_le_pow_right (by decide) (by omega))
  exact ⟨_, _, rounds_ok (M := prodD qs) (B := 1000) (N := 40) hk l6 lq (fun q hq => (Dv.den q).up (prodD_dvd hq)) (fun q hq => (h q hq).lo) (fun q hq => (h q hq).hi) (prodD_pos qs) (by decide)
    (Nat.lt_of_le_of_lt (Nat.mul_le_mul_left _ (Nat.mul_le_mul_right _ k2)) (Nat.lt_of_lt_of_le (by decide +kernel : (6 * bR 1000 40 + 1000000) * (60 ^ 6 * 768398400 ^ (40 + 1)) < 2 ^ 2000) (Nat.pow_le_pow_right (by decide) (by decide)))) r hr⟩
theorem and_tail {b : Bool} {A : VK → Prop} {Q : VK} {H : Hp} (hA : ∀ Q : VK, (∀ g, Q (.bl g) H) → A Q) (h : ∀ g, Q (.bl g) H) : if b = true then A Q else Q (.bl false) H := by
  cases b with
  | true => exact hA Q h
  | false => exact h false
end KR
/-! ### steady states: each kind put into the others -/
namespace KR
open PySem PySem.Spec PyProof.Rows L2
/-- so many from a place on, together -/
def gs (f : Nat → Rat) : Nat → Nat → Rat
  | 0, _ => 0
  | c + 1, k => f k + gs f c (k + 1)
theorem gs_ext {f g : Nat → Rat} : ∀ {c k : Nat}, (∀ i, k ≤ i → i < k + c → f i = g i) → gs f c k = gs g c k
  | 0, _, _ => rfl
  | c + 1, k, h => by
    show f k + gs f c (k + 1) = g k + gs g c (k + 1)
    rw [h k (Nat.le_refl k) (by omega), gs_ext (c := c) fun i a b => h i (by omega) (by omega)]
theorem gs_add (f g : Nat → Rat) : ∀ c k : Nat, gs (fun i => f i + g i) c k = gs f c k + gs g c k
  | 0, _ => by
    show (0 : Rat) = 0 + 0
    rw [Rat.add_zero]
  | c + 1, k => by
    show f k + g k + gs (fun i => f i + g i) c (k + 1) = f k + gs f c (k + 1) + (g k + gs g c (k + 1))
    rw [gs_add f g c (k + 1)]
    generalize gs f c (k + 1) = x
    generalize gs g c (k + 1) = z
    grind
theorem gs_mul (q : Rat) (f : Nat → Rat) : ∀ c k : Nat, gs (fun i => q * f i) c k = q * gs f c k
  | 0, _ => (Rat.mul_zero q).symm
  | c + 1, k => by
    show q * f k + gs (fun i => q * f i) c (k + 1) = q * (f k + gs f c (k + 1))
    rw [gs_mul q f c (k + 1), Rat.mul_add]
theorem gs_nn {f : Nat → Rat} : ∀ {c k : Nat}, (∀ i, k ≤ i → i < k + c → 0 ≤ f i) → 0 ≤ gs f c k
  | 0, _, _ => Rat.le_refl
  | c + 1, k, h => by
    have h1 := h k (Nat.le_refl k) (by omega)
    have h2 := gs_nn (c := c) (k := k + 1) fun i a b => h i (by omega) (by omega)
    show 0 ≤ f k + gs f c (k + 1)
    grind
theorem gs_le {f g : Nat → Rat} : ∀ {c k : Nat}, (∀ i, k ≤ i → i < k + c → f i ≤ g i) → gs f c k ≤ gs g c k
  | 0, _, _ => Rat.le_refl
  | c + 1, k, h => by
    have h1 := h k (Nat.le_refl k) (by omega)
    have h2 := gs_le (c := c) (k := k + 1) fun i a b => h i (by omega) (by omega)
    show f k + gs f c (k + 1) ≤ g k + gs g c (k + 1)
    grind
theorem gs_one {f : Nat → Rat} {c k i : Nat} (h : ∀ j, k ≤ j → j < k + c → 0 ≤ f j) (h1 : k ≤ i) (h2 : i < k + c) : f i ≤ gs f c k := by
  induction c generalizing k with
  | zero => omega
  | succ c ih =>
    show f i ≤ f k + gs f c (k + 1)
    have n1 := h k (Nat.le_refl k) (by omega)
    have n2 := gs_nn (f := f) (c := c) (k := k + 1) fun j a b => h j (by omega) (by omega)
    by_cases e : i = k
    · rw [e]
      grind
    · have := ih (k := k + 1) (fun j a b => h j (by omega) (by omega)) (by omega) (by omega)
      grind
/-- one of them apart -/
theorem gs_cut {f : Nat → Rat} {c k i : Nat} (h1 : k ≤ i) (h2 : i < k + c) : gs f c k = gs (fun j => if j = i then 0 else f j) c k + f i := by
  induction c generalizing k with
  | zero => omega
  | succ c ih =>
    show f k + gs f c (k + 1) = (if k = i then 0 else f k) + gs (fun j => if j = i then 0 else f j) c (k + 1) + f i
    by_cases e : k = i
    · rw [if_pos e, e, gs_ext (f := f) (g := fun j => if j = i then 0 else f j) (c := c) fun j a b => by
        show f j = if j = i then 0 else f j
        rw [if_neg (by omega)]]
      grind
    · rw [if_neg e, ih (by omega) (by omega)]
      grind
theorem gs_snoc (f : Nat → Rat) : ∀ c k : Nat, gs f (c + 1) k = gs f c k + f (k + c)
  | 0, k => by
    show f k + 0 = 0 + f (k + 0)
    rw [Rat.add_zero, Rat.zero_add] <;> rfl
  | c + 1, k => by
    show f k + gs f (c + 1) (k + 1) = f k + gs f c (k + 1) + f (k + (c + 1))
    rw [gs_snoc f c (k + 1), show k + 1 + c = k + (c + 1) by omega, Rat.add_assoc]
theorem gs_range (f : Nat → Rat) : ∀ n : Nat, zsum ((List.range n).map f) = gs f n 0
  | 0 => rfl
  | n + 1 => by
    rw [List.range_succ, List.map_append, zsum_app, gs_range f n, gs_snoc, Nat.zero_add]
    show _ + zsum [f n] = _
    rw [zsum_one]
/-- a row without a part of itself; it put into the others -/
def freedR (k : Nat) (r : Nat → Rat) (j : Nat) : Rat := if j = k then 0 else r j / (1 - r k)
def stepA (k : Nat) (A : Nat → Nat → Rat) (i j : Nat) : Rat := if i = k then freedR k (A k) j else if j = k then 0 else A i j + A i k * freedR k (A k) j
/-- what a state of rows tells -/
def Sat (n : Nat) (A : Nat → Nat → Rat) (z : Nat → Rat) : Prop := ∀ i, i < n → z i = gs (fun j => A i j * z j) n 0 + A i n
theorem sat_step {n k : Nat} {A : Nat → Nat → Rat} {z : Nat → Rat} (hk : k < n) (ne : 1 - A k k ≠ 0) (h : Sat n (stepA k A) z) : Sat n A z := by
  have cut : ∀ r : Nat → Rat, gs (fun j => r j * z j) n 0 = gs (fun j => (if j = k then 0 else r j) * z j) n 0 + r k * z k := fun r => by
    rw [gs_cut (f := fun j => r j * z j) (i := k) (Nat.zero_le k) (by omega)]
    refine congrArg (· + r k * z k) (gs_ext fun j _ _ => ?_)
    by_cases e : j = k
    · rw [if_pos e, if_pos e, Rat.zero_mul]
    · rw [if_neg e, if_neg e]
  have hkk := h k hk
  have e1 : gs (fun j => stepA k A k j * z j) n 0 = gs (fun j => (if j = k then 0 else A k j) * z j) n 0 / (1 - A k k) := by
    have e : ∀ j, stepA k A k j * z j = (1 / (1 - A k k)) * ((if j = k then 0 else A k j) * z j) := fun j => by
      unfold stepA freedR
      rw [if_pos rfl]
      by_cases e : j = k
      · rw [if_pos e, if_pos e, Rat.zero_mul, Rat.mul_zero]
      · rw [if_neg e, if_neg e]
        generalize A k j = a at *
        generalize 1 - A k k = b at *
        grind
    rw [gs_ext (fun j _ _ => e j), gs_mul]
    generalize gs _ n 0 = x
    generalize 1 - A k k = b at *
    grind
  have e2 : stepA k A k n = A k n / (1 - A k k) := by
    unfold stepA freedR
    rw [if_pos rfl, if_neg (by omega)]
  rw [e1, e2] at hkk
  intro i hi
  rw [cut (A i)]
  by_cases e : i = k
  · subst e
    generalize gs (fun j => (if j = i then 0 else A i j) * z j) n 0 = x at *
    generalize A i n = f at *
    generalize A i i = a at *
    generalize z i = y at *
    grind
  · have hi' := h i hi
    have e3 : gs (fun j => stepA k A i j * z j) n 0 = gs (fun j => (if j = k then 0 else A i j) * z j) n 0 + A i k * (gs (fun j => (if j = k then 0 else A k j) * z j) n 0 / (1 - A k k)) := by
      rw [← e1, ← gs_mul, ← gs_add]
      refine gs_ext fun j _ _ => ?_
      show stepA k A i j * z j = (if j = k then 0 else A i j) * z j + A i k * (stepA k A k j * z j)
      unfold stepA
      rw [if_neg e, if_pos rfl]
      by_cases ej : j = k
      · rw [if_pos ej, if_pos ej]
        unfold freedR
        rw [if_pos ej, Rat.zero_mul, Rat.mul_zero, Rat.zero_add]
      · rw [if_neg ej, if_neg ej]
        generalize freedR k (A k) j = w
        grind
    have e4 : stepA k A i n = A i n + A i k * (A k n / (1 - A k k)) := by
      unfold stepA freedR
      rw [if_neg e, if_neg (show ¬ n = k by omega), if_neg (show ¬ n = k by omega)]
    rw [e3, e4] at hi'
    generalize gs (fun j => (if j = k then 0 else A k j) * z j) n 0 = x at *
    generalize gs (fun j => (if j = k then 0 else A i j) * z j) n 0 = u at *
    generalize A i n = f at *
    generalize A i k = b at *
    generalize A k n = g at *
    generalize 1 - A k k = a at *
    generalize z i = y at *
    generalize z k = v at *
    grind
/-- how the rows stand when so many kinds are put into the others -/
structure Sta (F n k c : Nat) (A : Nat → Nat → Rat) (y : Nat → Rat) : Prop where
  kc : k + c = n
  nn : ∀ i j, i < n → j ≤ n → 0 ≤ A i j
  z : ∀ i j, i < n → j < k → A i j = 0
  yp : ∀ i, i < n → 0 < y i
  lt : ∀ j, k ≤ j → j < n → gs (fun i => y i * A i j) c k < y j
  le : ∀ j, k ≤ j → j < n → gs (fun i => A i j) c k ≤ 1
  fr : gs (fun i => A i n) c k ≤ ((F : Int) : Rat)
section
variable {F n k c : Nat} {A : Nat → Nat → Rat} {y : Nat → Rat}
theorem Sta.lost (s : Sta F n k (c + 1) A y) : 0 < 1 - A k k := by
  have hk : k < n := by have := s.kc; omega
  have h := s.lt k (Nat.le_refl k) hk
  have h2 : y k * A k k + gs (fun i => y i * A i k) c (k + 1) < y k := h
  have nn := gs_nn (f := fun i => y i * A i k) (c := c) (k := k + 1) fun i a b => Rat.mul_nonneg (Rat.le_of_lt (s.yp i (by have := s.kc; omega))) (s.nn i k (by have := s.kc; omega) (by omega))
  have yp := s.yp k hk
  refine Rat.not_le.mp fun z => ?_
  have m := Rat.mul_le_mul_of_nonneg_left (show (1 : Rat) ≤ A k k by grind) (Rat.le_of_lt yp)
  rw [Rat.mul_one] at m
  grind
theorem freed_nn {r : Nat → Rat} {k j : Nat} (h : 0 ≤ r j) (l : 0 < 1 - r k) : 0 ≤ freedR k r j := by
  unfold freedR
  split
  · exact Rat.le_refl
  · rw [Rat.div_def]
    exact Rat.mul_nonneg h (Rat.le_of_lt (Rat.inv_pos.mpr l))
theorem Sta.step (s : Sta F n k (c + 1) A y) : Sta F n (k + 1) c (stepA k A) y := by
  have kc := s.kc
  have hk : k < n := by omega
  have lost := s.lost
  have ne : 1 - A k k ≠ 0 := fun e => by
    rw [e] at lost
    exact absurd lost Rat.lt_irrefl
  -- what is weighed stays within
  have core : ∀ (w : Nat → Rat) (j : Nat), j ≠ k → (∀ i, i < n → 0 ≤ w i) → 0 ≤ freedR k (A k) j → gs (fun i => w i * A i k) (c + 1) k ≤ w k → gs (fun i => w i * stepA k A i j) c (k + 1) ≤ gs (fun i => w i * A i j) (c + 1) k := fun w j jk wp fj hk1 => by
    have e1 : gs (fun i => w i * stepA k A i j) c (k + 1) = gs (fun i => w i * A i j) c (k + 1) + freedR k (A k) j * gs (fun i => w i * A i k) c (k + 1) := by
      rw [← gs_mul, ← gs_add]
      refine gs_ext fun i a b => ?_
      show w i * stepA k A i j = w i * A i j + freedR k (A k) j * (w i * A i k)
      unfold stepA
      rw [if_neg (by omega), if_neg jk]
      generalize freedR k (A k) j = f
      grind
    rw [e1]
    show _ ≤ w k * A k j + gs (fun i => w i * A i j) c (k + 1)
    have h2 : w k * A k k + gs (fun i => w i * A i k) c (k + 1) ≤ w k := hk1
    have fe : freedR k (A k) j * (1 - A k k) = A k j := by
      unfold freedR
      rw [if_neg jk]
      generalize A k j = a
      generalize 1 - A k k = b at *
      grind
    have m := Rat.mul_le_mul_of_nonneg_left (show gs (fun i => w i * A i k) c (k + 1) ≤ w k * (1 - A k k) by grind) fj
    have e3 : freedR k (A k) j * (w k * (1 - A k k)) = w k * A k j := by
      rw [← fe]
      grind
    rw [e3] at m
    grind
  have fn : ∀ j, j ≤ n → 0 ≤ freedR k (A k) j := fun j hj => freed_nn (s.nn k j hk hj) lost
  have one : ∀ (j : Nat) (B : Nat → Nat → Rat) (c k : Nat), gs (fun i => (fun _ => (1 : Rat)) i * B i j) c k = gs (fun i => B i j) c k := fun j B c k => gs_ext fun i _ _ => Rat.one_mul _
  refine ⟨by omega, fun i j hi hj => ?_, fun i j hi hj => ?_, s.yp, fun j h1 h2 => ?_, fun j h1 h2 => ?_, ?_⟩
  · unfold stepA
    split
    · exact fn j hj
    · split
      · exact Rat.le_refl
      · have a := s.nn i j hi hj
        have b := Rat.mul_nonneg (s.nn i k hi (by omega)) (fn j hj)
        grind
  · unfold stepA
    split
    · unfold freedR
      split
      · rfl
      · rw [s.z k j hk (by omega), Rat.div_def, Rat.zero_mul]
    · split
      · rfl
      · rw [s.z i j hi (by omega)]
        unfold freedR
        rw [if_neg (by omega), s.z k j hk (by omega), Rat.div_def, Rat.zero_mul, Rat.mul_zero, Rat.add_zero]
  · have k1 := core y j (by omega) (fun i hi => Rat.le_of_lt (s.yp i hi)) (fn j (by omega)) (Rat.le_of_lt (s.lt k (Nat.le_refl k) hk))
    have k2 := s.lt j (by omega) h2
    grind
  · have k1 := core (fun _ => 1) j (by omega) (fun _ _ => by decide) (fn j (by omega)) (by rw [one]; exact s.le k (Nat.le_refl k) hk)
    rw [one, one] at k1
    exact Rat.le_trans k1 (s.le j (by omega) h2)
  · have k1 := core (fun _ => 1) n (by omega) (fun _ _ => by decide) (fn n (Nat.le_refl n)) (by rw [one]; exact s.le k (Nat.le_refl k) hk)
    rw [one, one] at k1
    exact Rat.le_trans k1 s.fr
theorem Sta.up (s : Sta F n k c A y) {i j : Nat} (h1 : k ≤ i) (h2 : i < n) (h3 : k ≤ j) (h4 : j < n) : A i j ≤ 1 :=
  Rat.le_trans (gs_one (f := fun i => A i j) (fun i' _ b => s.nn i' j (by have := s.kc; omega) (by omega)) h1 (by have := s.kc; omega)) (s.le j h3 h4)
theorem Sta.upF (s : Sta F n k c A y) {i : Nat} (h1 : k ≤ i) (h2 : i < n) : A i n ≤ ((F : Int) : Rat) :=
  Rat.le_trans (gs_one (f := fun i => A i n) (fun i' _ b => s.nn i' n (by have := s.kc; omega) (by omega)) h1 (by have := s.kc; omega)) s.fr
end
theorem Dv.one {M : Nat} (i : Int) : Dv M (i : Rat) := .int i
/-- a common bottom of what is put in -/
theorem Dv.put {M N L : Nat} {p q r a : Rat} (hp : Dv M p) (hq : Dv N q) (hr : Dv M r) (hL : (1 - a) * ((N : Int) : Rat) = ((L : Int) : Rat)) (ne : 1 - a ≠ 0) : Dv (M * L) (q * (r / (1 - a))) ∧ Dv (M * L) (p + q * (r / (1 - a))) ∧ Dv (M * N) (r / (1 - a) * (1 - a)) := by
  have hpu := Dv.up hp (Nat.dvd_mul_right M L)
  obtain ⟨v, ev⟩ := hq
  obtain ⟨t, et⟩ := hr
  have e : q * (r / (1 - a)) * (((M * L : Nat) : Int) : Rat) = ((v * t : Int) : Rat) := by
    rw [Int.natCast_mul, Rat.intCast_mul, Rat.intCast_mul, ← hL, ← ev, ← et]
    generalize 1 - a = b at *
    generalize ((M : Int) : Rat) = m at *
    generalize ((N : Int) : Rat) = n at *
    grind
  refine ⟨⟨_, e⟩, Dv.add hpu ⟨_, e⟩, ⟨t * N, ?_⟩⟩
  rw [Int.natCast_mul, Rat.intCast_mul, Rat.intCast_mul, ← et]
  generalize 1 - a = b at *
  generalize ((M : Int) : Rat) = m at *
  generalize ((N : Int) : Rat) = n at *
  grind
theorem Dv.freed {M N L : Nat} {r a : Rat} (hr : Dv M r) (hL : (1 - a) * ((N : Int) : Rat) = ((L : Int) : Rat)) (ne : 1 - a ≠ 0) : Dv (M * L) (r / (1 - a)) := by
  obtain ⟨t, et⟩ := hr
  refine ⟨t * N, ?_⟩
  rw [Int.natCast_mul, Rat.intCast_mul, Rat.intCast_mul, ← et, ← hL]
  generalize 1 - a = b at *
  generalize ((M : Int) : Rat) = m at *
  generalize ((N : Int) : Rat) = n at *
  grind
/-- how long the rows' fractions are -/
structure Szs (F n m f V : Nat) (A : Nat → Nat → Rat) (M : Nat → Nat) : Prop where
  dv : ∀ i j, i < n → j ≤ n → Dv (M j) (A i j)
  m0 : ∀ j, j ≤ n → 0 < M j
  mm : ∀ j, j < n → M j ≤ m
  mf : M n ≤ f
  vv : ∀ i j, i < n → j < n → A i j ≤ ((V : Int) : Rat)
  vf : ∀ i, i < n → A i n ≤ ((F * V : Nat) : Int)
theorem inv_le {a : Rat} {N L : Nat} (hL : (1 - a) * ((N : Int) : Rat) = ((L : Int) : Rat)) (L1 : 1 ≤ L) (lost : 0 < 1 - a) : 1 / (1 - a) ≤ ((N : Int) : Rat) := by
  refine div_le lost ?_
  have k : ((1 : Int) : Rat) ≤ ((L : Int) : Rat) := Rat.intCast_le_intCast.mpr (by omega)
  rw [← hL] at k
  have one : ((1 : Int) : Rat) = 1 := rfl
  rw [one] at k
  generalize ((N : Int) : Rat) = x at *
  generalize 1 - a = b at *
  grind
section
variable {F n k c m f V : Nat} {A : Nat → Nat → Rat} {y : Nat → Rat} {M : Nat → Nat}
theorem lost_nat (s : Sta F n k (c + 1) A y) (z : Szs F n m f V A M) : ∃ L : Nat, (1 - A k k) * ((M k : Int) : Rat) = ((L : Int) : Rat) ∧ 1 ≤ L ∧ L ≤ M k := by
  have hk : k < n := by have := s.kc; omega
  obtain ⟨t, et⟩ := z.dv k k hk (by omega)
  have lost := s.lost
  have nn := s.nn k k hk (by omega)
  have m0 := z.m0 k (by omega)
  have mp := cast_pos (show (0 : Int) < (M k : Int) by omega)
  have e : (1 - A k k) * ((M k : Int) : Rat) = (((M k : Int) - t : Int) : Rat) := by
    rw [Rat.intCast_sub, ← et]
    generalize ((M k : Int) : Rat) = x
    grind
  have p1 := Rat.mul_pos lost mp
  rw [e] at p1
  have q1 : (0 : Int) < (M k : Int) - t := Rat.intCast_pos.mp p1
  have p2 := Rat.mul_nonneg nn (Rat.le_of_lt mp)
  rw [et] at p2
  have q2 : (0 : Int) ≤ t := Rat.intCast_nonneg.mp p2
  refine ⟨((M k : Int) - t).toNat, ?_, by omega, by omega⟩
  rw [e, show ((((M k : Int) - t).toNat : Nat) : Int) = (M k : Int) - t by omega]
theorem mul_le2 {a b u v : Rat} (a0 : 0 ≤ a) (b0 : 0 ≤ b) (h1 : a ≤ u) (h2 : b ≤ v) : a * b ≤ u * v := by
  have k1 := Rat.mul_le_mul_of_nonneg_right h1 b0
  have k2 := Rat.mul_le_mul_of_nonneg_left h2 (Rat.le_trans a0 h1)
  exact Rat.le_trans k1 k2
theorem freed_le {r : Nat → Rat} {k j N L : Nat} {U : Nat} (hL : (1 - r k) * ((N : Int) : Rat) = ((L : Int) : Rat)) (L1 : 1 ≤ L) (lost : 0 < 1 - r k) (r0 : 0 ≤ r j) (r1 : r j ≤ ((U : Int) : Rat)) : freedR k r j ≤ ((U * N : Nat) : Int) := by
  unfold freedR
  split
  · exact cast_nn (by omega)
  · have e : r j / (1 - r k) = r j * (1 / (1 - r k)) := by
      generalize 1 - r k = b
      grind
    rw [e, Int.natCast_mul, Rat.intCast_mul]
    refine mul_le2 r0 ?_ r1 (inv_le hL L1 lost)
    rw [Rat.div_def, Rat.one_mul]
    exact Rat.le_of_lt (Rat.inv_pos.mpr lost)
/-- all that one step tells is not long -/
structure StepOk (n k : Nat) (A : Nat → Nat → Rat) : Prop where
  ne : 1 - A k k ≠ 0
  a : ∀ i j, i < n → j ≤ n → Big (A i j)
  l : Big (1 - A k k)
  fr : ∀ j, j ≤ n → Big (freedR k (A k) j)
  fd : ∀ j, j ≤ n → Big (A k j / (1 - A k k))
  mu : ∀ i j, i < n → j ≤ n → Big (A i k * freedR k (A k) j)
theorem Szs.step (s : Sta F n k (c + 1) A y) (z : Szs F n m f V A M) (V1 : 1 ≤ V) (F1 : 1 ≤ F) (m1 : 1 ≤ m) : ∃ M', Szs F n (m * m) (f * m) (V * (1 + m)) (stepA k A) M' := by
  have kc := s.kc
  have hk : k < n := by omega
  have lost := s.lost
  have ne : 1 - A k k ≠ 0 := fun e => by
    rw [e] at lost
    exact absurd lost Rat.lt_irrefl
  obtain ⟨L, hL, L1, L2⟩ := lost_nat s z
  have Mk := z.mm k hk
  have Lm : L ≤ m := Nat.le_trans L2 Mk
  have fn : ∀ j, j ≤ n → 0 ≤ freedR k (A k) j := fun j hj => freed_nn (s.nn k j hk hj) lost
  have fdv : ∀ j, j ≤ n → j ≠ k → freedR k (A k) j = A k j / (1 - A k k) := fun j _ e => by
    unfold freedR
    rw [if_neg e]
  have ak : ∀ j, j < n → A k j ≤ ((1 : Nat) : Int) := fun j hj => by
    by_cases le : k ≤ j
    · exact s.up (Nat.le_refl k) hk le hj
    · rw [s.z k j hk (by omega)]
      decide
  refine ⟨fun j => M j * L, fun i j hi hj => ?_, fun j hj => Nat.mul_pos (z.m0 j hj) L1, fun j hj => Nat.mul_le_mul (z.mm j hj) Lm, Nat.mul_le_mul z.mf Lm, fun i j hi hj => ?_, fun i hi => ?_⟩
  · show Dv (M j * L) (stepA k A i j)
    unfold stepA
    by_cases ei : i = k
    · rw [if_pos ei]
      by_cases ej : j = k
      · unfold freedR
        rw [if_pos ej]
        exact .zero
      · rw [fdv j hj ej]
        exact (z.dv k j hk hj).freed hL ne
    · rw [if_neg ei]
      by_cases ej : j = k
      · rw [if_pos ej]
        exact .zero
      · rw [if_neg ej, fdv j hj ej]
        exact (Dv.put (z.dv i j hi hj) (z.dv i k hi (by omega)) (z.dv k j hk hj) hL ne).2.1
  · have fl := freed_le (U := 1) hL L1 lost (s.nn k j hk (by omega)) (ak j hj)
    have fl2 : freedR k (A k) j ≤ ((m : Int) : Rat) := Rat.le_trans fl (Rat.intCast_le_intCast.mpr (by omega))
    have vm : ((m : Int) : Rat) ≤ ((V * (1 + m) : Nat) : Int) := Rat.intCast_le_intCast.mpr (by
      have : 1 * m ≤ V * (1 + m) := Nat.mul_le_mul V1 (by omega)
      omega)
    unfold stepA
    split
    · exact Rat.le_trans fl2 vm
    · split
      · exact cast_nn (by omega)
      · have k2 := mul_le2 (s.nn i k hi (by omega)) (fn j (by omega)) (z.vv i k hi hk) fl2
        have k1 := z.vv i j hi hj
        have e : ((V * (1 + m) : Nat) : Int) = (V : Int) + (V : Int) * (m : Int) := by
          rw [Nat.mul_add, Nat.mul_one]
          omega
        rw [e, Rat.intCast_add, Rat.intCast_mul]
        generalize A i k * freedR k (A k) j = x at *
        grind
  · have fl := freed_le (U := F) hL L1 lost (s.nn k n hk (Nat.le_refl n)) (s.upF (Nat.le_refl k) hk)
    have fl2 : freedR k (A k) n ≤ ((F * m : Nat) : Int) := Rat.le_trans fl (Rat.intCast_le_intCast.mpr (by
      have := Nat.mul_le_mul_left F Mk
      omega))
    have vm : ((F * m : Nat) : Int) ≤ ((F * (V * (1 + m)) : Nat) : Int) := by
      have : F * (1 * m) ≤ F * (V * (1 + m)) := Nat.mul_le_mul_left F (Nat.mul_le_mul V1 (by omega))
      rw [Nat.one_mul] at this
      omega
    unfold stepA
    split
    · exact Rat.le_trans fl2 (Rat.intCast_le_intCast.mpr vm)
    · split
      · exact cast_nn (by omega)
      · have k2 := mul_le2 (s.nn i k hi (by omega)) (fn n (Nat.le_refl n)) (z.vv i k hi hk) fl2
        have k1 := z.vf i hi
        have e : ((F * (V * (1 + m)) : Nat) : Int) = ((F * V : Nat) : Int) + (V : Int) * ((F * m : Nat) : Int) := by
          have e0 : F * (V * (1 + m)) = F * V + V * (F * m) := by
            rw [Nat.mul_add, Nat.mul_one, Nat.mul_add, Nat.mul_left_comm]
          rw [e0]
          omega
        rw [e, Rat.intCast_add, Rat.intCast_mul]
        generalize A i k * freedR k (A k) n = x at *
        grind
theorem Szs.ok (s : Sta F n k (c + 1) A y) (z : Szs F n m f V A M) (V1 : 1 ≤ V) (F1 : 1 ≤ F) (m1 : 1 ≤ m) (f1 : 1 ≤ f) (fit : F * (V * (1 + m)) * (m * m + f * m) < 2 ^ 4400) : StepOk n k A := by
  have kc := s.kc
  have hk : k < n := by omega
  have lost := s.lost
  have ne : 1 - A k k ≠ 0 := fun e => by
    rw [e] at lost
    exact absurd lost Rat.lt_irrefl
  obtain ⟨L, hL, L1, L2⟩ := lost_nat s z
  obtain ⟨M', z'⟩ := z.step s V1 F1 m1
  have s' := s.step
  have Mk := z.mm k hk
  have Lm : L ≤ m := Nat.le_trans L2 Mk
  have fn : ∀ j, j ≤ n → 0 ≤ freedR k (A k) j := fun j hj => freed_nn (s.nn k j hk hj) lost
  -- what is not below 0, of a bottom and within a bound that fit
  have big : ∀ (N B : Nat) (q : Rat), Dv N q → 0 < N → 0 ≤ q → q ≤ ((B : Int) : Rat) → B ≤ F * (V * (1 + m)) → N ≤ m * m + f * m → Big q := fun N B q d n0 lo hi b1 b2 =>
    d.szN n0 lo (Rat.le_trans hi (Rat.intCast_le_intCast.mpr (show (B : Int) ≤ ((F * (V * (1 + m)) : Nat) : Int) by omega))) (by
      have : 1 * (1 * 1) ≤ F * (V * (1 + m)) := Nat.mul_le_mul F1 (Nat.mul_le_mul V1 (by omega))
      omega) (Nat.lt_of_le_of_lt (Nat.mul_le_mul_left _ b2) fit)
  have B0 : V ≤ F * (V * (1 + m)) := by
    have : 1 * (V * 1) ≤ F * (V * (1 + m)) := Nat.mul_le_mul F1 (Nat.mul_le_mul_left V (by omega))
    omega
  have B1 : F * V ≤ F * (V * (1 + m)) := Nat.mul_le_mul_left F (Nat.le_mul_of_pos_right V (by omega))
  have B2 : V * (1 + m) ≤ F * (V * (1 + m)) := Nat.le_mul_of_pos_left _ F1
  have N0 : m ≤ m * m + f * m := by
    have : 1 * m ≤ m * m := Nat.mul_le_mul_right m m1
    omega
  have N1 : f ≤ m * m + f * m := by
    have : f * 1 ≤ f * m := Nat.mul_le_mul_left f m1
    omega
  have fdv : ∀ j, j ≤ n → Big (A k j / (1 - A k k)) := fun j hj => by
    have d := (z.dv k j hk hj).freed hL ne
    have n0 := Nat.mul_pos (z.m0 j hj) L1
    have nnk := s.nn k j hk hj
    have e : A k j / (1 - A k k) = A k j * (1 / (1 - A k k)) := by
      generalize 1 - A k k = b
      grind
    have i0 : (0 : Rat) ≤ 1 / (1 - A k k) := by
      rw [Rat.div_def, Rat.one_mul]
      exact Rat.le_of_lt (Rat.inv_pos.mpr lost)
    have lo : 0 ≤ A k j / (1 - A k k) := by
      rw [e]
      exact Rat.mul_nonneg nnk i0
    have iv := inv_le hL L1 lost
    have im : 1 / (1 - A k k) ≤ ((m : Int) : Rat) := Rat.le_trans iv (Rat.intCast_le_intCast.mpr (by omega))
    by_cases jn : j = n
    · subst jn
      have hi := mul_le2 nnk i0 (s.upF (Nat.le_refl k) hk) im
      rw [← e, ← Rat.intCast_mul, ← Int.natCast_mul] at hi
      refine big _ (F * m) _ d n0 lo hi (Nat.mul_le_mul_left F ?_) (Nat.le_trans (Nat.mul_le_mul z.mf Lm) (by omega))
      have : 1 * m ≤ V * (1 + m) := Nat.mul_le_mul V1 (by omega)
      omega
    · have ak : A k j ≤ ((1 : Int) : Rat) := by
        by_cases le : k ≤ j
        · exact s.up (Nat.le_refl k) hk le (by omega)
        · rw [s.z k j hk (by omega)]
          decide
      have hi := mul_le2 nnk i0 ak im
      rw [← e, ← Rat.intCast_mul, Int.one_mul] at hi
      refine big _ m _ d n0 lo hi ?_ (Nat.le_trans (Nat.mul_le_mul (z.mm j (by omega)) Lm) (by omega))
      have : 1 * m ≤ V * (1 + m) := Nat.mul_le_mul V1 (by omega)
      omega
  refine ⟨ne, fun i j hi hj => ?_, ?_, fun j hj => ?_, fdv, fun i j hi hj => ?_⟩
  · by_cases jn : j = n
    · subst jn
      exact big _ _ _ (z.dv i j hi hj) (z.m0 j hj) (s.nn i j hi hj) (z.vf i hi) B1 (Nat.le_trans z.mf N1)
    · exact big _ _ _ (z.dv i j hi hj) (z.m0 j hj) (s.nn i j hi hj) (z.vv i j hi (by omega)) B0 (Nat.le_trans (z.mm j (by omega)) N0)
  · have nn := s.nn k k hk (by omega)
    exact big (M k) 1 _ ((Dv.int 1).sub (z.dv k k hk (by omega))) (z.m0 k (by omega)) (Rat.le_of_lt lost) (show 1 - A k k ≤ ((1 : Int) : Rat) by
      have : ((1 : Int) : Rat) = 1 := rfl
      rw [this]
      grind) (by omega) (Nat.le_trans Mk N0)
  · unfold freedR
    split
    · exact big 1 1 0 .zero (by decide) Rat.le_refl (by decide) (by omega) (by omega)
    · exact fdv j hj
  · by_cases ej : j = k
    · unfold freedR
      rw [if_pos ej, Rat.mul_zero]
      exact big 1 1 0 .zero (by decide) Rat.le_refl (by decide) (by omega) (by omega)
    · have fe : freedR k (A k) j = A k j / (1 - A k k) := by
        unfold freedR
        rw [if_neg ej]
      have d : Dv (M j * L) (A i k * freedR k (A k) j) := by
        rw [fe]
        exact (Dv.put (z.dv i j hi hj) (z.dv i k hi (by omega)) (z.dv k j hk hj) hL ne).1
      have lo := Rat.mul_nonneg (s.nn i k hi (by omega)) (fn j hj)
      by_cases jn : j = n
      · subst jn
        have fl := freed_le (U := F) hL L1 lost (s.nn k j hk hj) (s.upF (Nat.le_refl k) hk)
        have fl2 : freedR k (A k) j ≤ ((F * m : Nat) : Int) := Rat.le_trans fl (Rat.intCast_le_intCast.mpr (by
          have := Nat.mul_le_mul_left F Mk
          omega))
        have hi2 := mul_le2 (s.nn i k hi (by omega)) (fn j hj) (z.vv i k hi hk) fl2
        rw [← Rat.intCast_mul, ← Int.natCast_mul] at hi2
        refine big _ _ _ d (Nat.mul_pos (z.m0 j hj) L1) lo hi2 ?_ (Nat.le_trans (Nat.mul_le_mul z.mf Lm) (by omega))
        rw [Nat.mul_left_comm]
        exact Nat.mul_le_mul_left F (Nat.mul_le_mul_left V (by omega))
      · have ak : A k j ≤ ((1 : Nat) : Int) := by
          by_cases le : k ≤ j
          · exact s.up (Nat.le_refl k) hk le (by omega)
          · rw [s.z k j hk (by omega)]
            decide
        have fl := freed_le (U := 1) hL L1 lost (s.nn k j hk hj) ak
        have fl2 : freedR k (A k) j ≤ ((m : Int) : Rat) := Rat.le_trans fl (Rat.intCast_le_intCast.mpr (by omega))
        have hi2 := mul_le2 (s.nn i k hi (by omega)) (fn j hj) (z.vv i k hi hk) fl2
        rw [← Rat.intCast_mul, ← Int.natCast_mul] at hi2
        refine big _ _ _ d (Nat.mul_pos (z.m0 j hj) L1) lo hi2 (Nat.le_trans ?_ B2) (Nat.le_trans (Nat.mul_le_mul (z.mm j (by omega)) Lm) (by omega))
        exact Nat.mul_le_mul_left V (by omega)
end
end KR
/-! ### kinds: what they lose, how they stay -/
namespace KR
open PySem PySem.Spec PyProof.Rows L2
/-- step after step -/
def stgA (A : Nat → Nat → Rat) : Nat → Nat → Nat → Rat
  | 0 => A
  | k + 1 => stepA k (stgA A k)
def mS : Nat → Nat
  | 0 => 332640
  | k + 1 => mS k * mS k
def fS : Nat → Nat
  | 0 => 1
  | k + 1 => fS k * mS k
def vS : Nat → Nat
  | 0 => 1
  | k + 1 => vS k * (1 + mS k)
theorem mS_pos : ∀ k, 1 ≤ mS k
  | 0 => by decide
  | k + 1 => Nat.mul_pos (mS_pos k) (mS_pos k)
theorem fS_pos : ∀ k, 1 ≤ fS k
  | 0 => by decide
  | k + 1 => Nat.mul_pos (fS_pos k) (mS_pos k)
theorem vS_pos : ∀ k, 1 ≤ vS k
  | 0 => by decide
  | k + 1 => Nat.mul_pos (vS_pos k) (by omega)
theorem mS_up {a b : Nat} (h : a ≤ b) : mS a ≤ mS b := by
  induction b with
  | zero => rw [Nat.le_zero.mp h]; exact Nat.le_refl _
  | succ b ih =>
    rcases Nat.lt_or_ge a (b + 1) with l | l
    · exact Nat.le_trans (ih (by omega)) (Nat.le_mul_of_pos_right _ (mS_pos b))
    · rw [show a = b + 1 by omega]
      exact Nat.le_refl _
theorem fS_up {a b : Nat} (h : a ≤ b) : fS a ≤ fS b := by
  induction b with
  | zero => rw [Nat.le_zero.mp h]; exact Nat.le_refl _
  | succ b ih =>
    rcases Nat.lt_or_ge a (b + 1) with l | l
    · exact Nat.le_trans (ih (by omega)) (Nat.le_mul_of_pos_right _ (mS_pos b))
    · rw [show a = b + 1 by omega]
      exact Nat.le_refl _
theorem vS_up {a b : Nat} (h : a ≤ b) : vS a ≤ vS b := by
  induction b with
  | zero => rw [Nat.le_zero.mp h]; exact Nat.le_refl _
  | succ b ih =>
    rcases Nat.lt_or_ge a (b + 1) with l | l
    · exact Nat.le_trans (ih (by omega)) (Nat.le_mul_of_pos_right _ (by omega))
    · rw [show a = b + 1 by omega]
      exact Nat.le_refl _
section
variable {n : Nat} {A : Nat → Nat → Rat} {y : Nat → Rat}
theorem stages (s : Sta 6000000 n 0 n A y) (z : Szs 6000000 n (mS 0) (fS 0) (vS 0) A M) : ∀ k, k ≤ n → Sta 6000000 n k (n - k) (stgA A k) y ∧ ∃ M', Szs 6000000 n (mS k) (fS k) (vS k) (stgA A k) M'
  | 0, _ => ⟨s, M, z⟩
  | k + 1, h => by
    obtain ⟨a, M', b⟩ := stages s z k (by omega)
    rw [show n - k = (n - (k + 1)) + 1 by omega] at a
    exact ⟨a.step, b.step a (vS_pos k) (by decide) (mS_pos k)⟩
theorem stage_ok (s : Sta 6000000 n 0 n A y) (z : Szs 6000000 n (mS 0) (fS 0) (vS 0) A M) (n6 : n ≤ 6) {k : Nat} (h : k < n) : StepOk n k (stgA A k) := by
  obtain ⟨a, M', b⟩ := stages s z k (by omega)
  rw [show n - k = (n - (k + 1)) + 1 by omega] at a
  refine b.ok a (vS_pos k) (by decide) (mS_pos k) (fS_pos k) ?_
  have h1 := vS_up (show k ≤ 5 by omega)
  have h2 := mS_up (show k ≤ 5 by omega)
  have h3 := fS_up (show k ≤ 5 by omega)
  exact Nat.lt_of_le_of_lt (Nat.mul_le_mul (Nat.mul_le_mul_left _ (Nat.mul_le_mul h1 (Nat.add_le_add_left h2 1))) (Nat.add_le_add (Nat.mul_le_mul h2 h2) (Nat.mul_le_mul h3 h2)))
    (by decide +kernel : 6000000 * (vS 5 * (1 + mS 5)) * (mS 5 * mS 5 + fS 5 * mS 5) < 2 ^ 4400)
/-- what is told in the end -/
theorem sat_stg (s : Sta 6000000 n 0 n A y) (z : Szs 6000000 n (mS 0) (fS 0) (vS 0) A M) (x : Nat → Rat) : ∀ k, k ≤ n → Sat n (stgA A k) x → Sat n A x
  | 0, _, h => h
  | k + 1, hk, h => by
    obtain ⟨a, M', b⟩ := stages s z k (by omega)
    rw [show n - k = (n - (k + 1)) + 1 by omega] at a
    have l := a.lost
    exact sat_stg s z x k (by omega) (sat_step (show k < n by omega) (fun e => by rw [e] at l; exact absurd l Rat.lt_irrefl) h)
theorem sat_end (s : Sta 6000000 n 0 n A y) (z : Szs 6000000 n (mS 0) (fS 0) (vS 0) A M) : Sat n A fun i => stgA A n i n := by
  refine sat_stg s z _ n (Nat.le_refl n) fun i hi => ?_
  obtain ⟨a, _⟩ := stages s z n (Nat.le_refl n)
  have e : gs (fun j => stgA A n i j * stgA A n j n) n 0 = gs (fun _ => (0 : Rat) * 0) n 0 := gs_ext fun j _ hj => by
    rw [a.z i j hi (by omega), Rat.zero_mul, Rat.zero_mul]
  rw [e, gs_mul, Rat.zero_mul, Rat.zero_add]
theorem end_facts (s : Sta 6000000 n 0 n A y) (z : Szs 6000000 n (mS 0) (fS 0) (vS 0) A M) : ∃ D, 0 < D ∧ D ≤ fS n ∧ ∀ i, i < n → Dv D (stgA A n i n) ∧ 0 ≤ stgA A n i n ∧ stgA A n i n ≤ ((6000000 * vS n : Nat) : Int) := by
  obtain ⟨a, M', b⟩ := stages s z n (Nat.le_refl n)
  exact ⟨M' n, b.m0 n (Nat.le_refl n), b.mf, fun i hi => ⟨b.dv i n hi (Nat.le_refl n), a.nn i n hi (Nat.le_refl n), b.vf i hi⟩⟩
end
/-- the last column so often -/
theorem stg_twice {n : Nat} (q : Rat) {A B : Nat → Nat → Rat} (h1 : ∀ i j, j < n → B i j = A i j) (h2 : ∀ i, B i n = q * A i n) : ∀ k, k ≤ n → (∀ i j, j < n → stgA B k i j = stgA A k i j) ∧ ∀ i, stgA B k i n = q * stgA A k i n
  | 0, _ => ⟨h1, h2⟩
  | k + 1, hk => by
    obtain ⟨a, b⟩ := stg_twice q h1 h2 k (by omega)
    have fj : ∀ j, j < n → freedR k (stgA B k k) j = freedR k (stgA A k k) j := fun j hj => by
      unfold freedR
      rw [a k j hj, a k k (by omega)]
    have fn : freedR k (stgA B k k) n = q * freedR k (stgA A k k) n := by
      unfold freedR
      rw [if_neg (by omega), if_neg (by omega), b k, a k k (by omega), Rat.div_def, Rat.div_def, Rat.mul_assoc]
    refine ⟨fun i j hj => ?_, fun i => ?_⟩
    · show stepA k (stgA B k) i j = stepA k (stgA A k) i j
      unfold stepA
      rw [fj j hj, a i j hj, a i k (by omega)]
    · show stepA k (stgA B k) i n = q * stepA k (stgA A k) i n
      unfold stepA
      rw [fn, b i, a i k (by omega), if_neg (show ¬ n = k by omega), if_neg (show ¬ n = k by omega)]
      split
      · rfl
      · generalize freedR k (stgA A k k) n = u
        generalize stgA A k i k = v
        generalize stgA A k i n = w
        grind
/-! kinds -/
def kd (ks : List Kq) (j : Nat) : Kq := ks.getD j ⟨0, 0, []⟩
def initA (ks : List Kq) (i j : Nat) : Rat := if j < ks.length then (kd ks j).drip * (kd ks j).goes.getD i 0 else ((kd ks i).fresh : Rat)
def solQ (ks : List Kq) : List Rat := (List.range ks.length).map fun i => stgA (initA ks) ks.length i ks.length
theorem kd_at {ks : List Kq} {j : Nat} {k : Kq} (h : ks[j]? = some k) : kd ks j = k := by
  unfold kd
  rw [List.getD_eq_getElem?_getD, h] <;> rfl
theorem kd_mem {ks : List Kq} {j : Nat} (h : j < ks.length) : kd ks j ∈ ks := by
  rw [kd_at (List.getElem?_eq_getElem h)]
  exact List.getElem_mem h
/-- kinds that go together -/
structure KsOk (ks : List Kq) : Prop where
  ok : ∀ k ∈ ks, KqOk k
  len : ∀ k ∈ ks, k.goes.length = ks.length
  one : ∀ k ∈ ks, zsum k.goes ≤ 1
  l6 : ks.length ≤ 6
theorem goes_gs {g : List Rat} {n : Nat} (h : g.length = n) : zsum g = gs (fun i => g.getD i 0) n 0 := by
  rw [← gs_range]
  refine congrArg zsum (List.ext_getElem? fun i => ?_)
  rw [List.getElem?_map]
  by_cases hi : i < n
  · rw [List.getElem?_range hi, List.getElem?_eq_getElem (by omega)]
    show _ = some (g.getD i 0)
    rw [List.getD_eq_getElem?_getD, List.getElem?_eq_getElem (by omega)] <;> rfl
  · rw [List.getElem?_eq_none (by omega), List.getElem?_eq_none (by rw [List.length_range]; omega)] <;> rfl
section
variable {ks : List Kq} (O : KsOk ks)
include O
theorem KsOk.part {j : Nat} (h : j < ks.length) (i : Nat) : Part ((kd ks j).goes.getD i 0) := (O.ok _ (kd_mem h)).at_ i
theorem KsOk.col {j : Nat} (h : j < ks.length) : gs (fun i => initA ks i j) ks.length 0 = (kd ks j).drip * zsum (kd ks j).goes := by
  rw [goes_gs (O.len _ (kd_mem h)), ← gs_mul]
  refine gs_ext fun i _ _ => ?_
  unfold initA
  rw [if_pos h]
theorem KsOk.nn (i j : Nat) (hi : i < ks.length) : 0 ≤ initA ks i j := by
  unfold initA
  split
  case isTrue h => exact Rat.mul_nonneg (O.ok _ (kd_mem h)).pd.lo (O.part h i).lo
  case isFalse h => exact cast_nn (O.ok _ (kd_mem hi)).f0
theorem KsOk.col1 {j : Nat} (h : j < ks.length) : gs (fun i => initA ks i j) ks.length 0 ≤ 1 := by
  rw [O.col h]
  have p := (O.ok _ (kd_mem h)).pd
  have g := O.one _ (kd_mem h)
  have k := mul_le2 p.lo (zsum_nn fun q hq => ((O.ok _ (kd_mem h)).pg q hq).lo) p.hi g
  rw [Rat.mul_one] at k
  exact k
theorem KsOk.szs : ∃ M, Szs 6000000 ks.length (mS 0) (fS 0) (vS 0) (initA ks) M := by
  refine ⟨fun j => if j < ks.length then (kd ks j).drip.den * 27720 else 1, fun i j hi hj => ?_, fun j hj => ?_, fun j hj => ?_, ?_, fun i j hi hj => ?_, fun i hi => ?_⟩
  · unfold initA
    by_cases h : j < ks.length
    · rw [if_pos h, if_pos h]
      exact (Dv.den _).mul (O.part h i).dv
    · rw [if_neg h, if_neg h]
      exact .int _
  · show 0 < if j < ks.length then _ else _
    split
    · exact Nat.mul_pos (Rat.den_pos _) (by decide)
    · decide
  · show (if j < ks.length then _ else _) ≤ mS 0
    rw [if_pos hj]
    have := (O.ok _ (kd_mem hj)).pd.bt
    show _ ≤ 332640
    omega
  · show (if ks.length < ks.length then _ else _) ≤ fS 0
    rw [if_neg (Nat.lt_irrefl _)]
    exact Nat.le_refl _
  · exact Rat.le_trans (gs_one (f := fun i => initA ks i j) (fun i' _ h => O.nn i' j (by omega)) (Nat.zero_le i) (by omega)) (O.col1 hj)
  · unfold initA
    rw [if_neg (Nat.lt_irrefl _)]
    refine Rat.intCast_le_intCast.mpr ?_
    have := (O.ok _ (kd_mem hi)).f1
    show (kd ks i).fresh ≤ ((6000000 * 1 : Nat) : Int)
    omega
theorem KsOk.sta {y : Nat → Rat} (y0 : ∀ i, i < ks.length → 0 < y i) (lt : ∀ j, j < ks.length → gs (fun i => y i * initA ks i j) ks.length 0 < y j) : Sta 6000000 ks.length 0 ks.length (initA ks) y := by
  refine ⟨Nat.zero_add _, fun i j hi _ => O.nn i j hi, fun i j _ h => absurd h (Nat.not_lt_zero j), y0, fun j _ h => lt j h, fun j _ h => O.col1 h, ?_⟩
  have all : gs (fun i => initA ks i ks.length) ks.length 0 ≤ gs (fun _ => (1000000 : Rat) * 1) ks.length 0 := gs_le fun i _ hi => by
    unfold initA
    rw [if_neg (Nat.lt_irrefl _), Rat.mul_one]
    exact Rat.intCast_le_intCast.mpr (show (kd ks i).fresh ≤ (1000000 : Int) from (O.ok _ (kd_mem (by omega))).f1)
  refine Rat.le_trans all ?_
  rw [gs_mul]
  have c : ∀ c k : Nat, c ≤ 6 → gs (fun _ => (1 : Rat)) c k ≤ 6 := fun c k hc => by
    have e : ∀ c k : Nat, gs (fun _ => (1 : Rat)) c k = ((c : Int) : Rat) := fun c => by
      induction c with
      | zero => exact fun _ => rfl
      | succ c ih =>
        intro k
        show 1 + gs _ c (k + 1) = _
        rw [ih, Int.natCast_add, Rat.intCast_add, Rat.add_comm] <;> rfl
    rw [e]
    exact Rat.intCast_le_intCast.mpr (show (c : Int) ≤ 6 by omega)
  have k := Rat.mul_le_mul_of_nonneg_left (c ks.length 0 O.l6) (show (0 : Rat) ≤ 1000000 by decide)
  refine Rat.le_trans k ?_
  show ((1000000 : Int) : Rat) * ((6 : Int) : Rat) ≤ _
  rw [← Rat.intCast_mul]
  exact Rat.intCast_le_intCast.mpr (by decide)
end
/-- kinds of some places, weighed: what is not at them loses something in the end -/
structure Wt (ks : List Kq) (P : Nat → Bool) (y : Nat → Rat) : Prop where
  y0 : ∀ i, i < ks.length → 0 < y i
  y1 : ∀ i, i < ks.length → y i ≤ 1
  on : ∀ i, i < ks.length → P i = true → y i = 1
  off : ∀ i, i < ks.length → P i = false → y i < 1 ∧ gs (fun j => y j * initA ks j i) ks.length 0 < y i
theorem Wt.all (ks : List Kq) : Wt ks (fun _ => true) fun _ => 1 := ⟨fun _ _ => by decide, fun _ _ => Rat.le_refl, fun _ _ _ => rfl, fun _ _ h => Bool.noConfusion h⟩
theorem Wt.less {ks : List Kq} {P Q : Nat → Bool} {y : Nat → Rat} (O : KsOk ks) (w : Wt ks P y) (sub : ∀ i, i < ks.length → Q i = true → P i = true) (h : ∀ i, i < ks.length → P i = true → Q i = false → gs (fun j => if P j then initA ks j i else 0) ks.length 0 < 1) : ∃ y', Wt ks Q y' := by
  have low : ∀ i, i < ks.length → P i = true → Q i = false → gs (fun j => y j * initA ks j i) ks.length 0 < 1 := fun i hi p q => by
    have le1 := O.col1 hi
    have e : gs (fun j => initA ks j i) ks.length 0 = gs (fun j => y j * initA ks j i) ks.length 0 + gs (fun j => (1 - y j) * initA ks j i) ks.length 0 := by
      rw [← gs_add]
      refine gs_ext fun j _ _ => ?_
      show initA ks j i = y j * initA ks j i + (1 - y j) * initA ks j i
      generalize initA ks j i = a
      grind
    have tn : ∀ j, 0 ≤ j → j < 0 + ks.length → 0 ≤ (1 - y j) * initA ks j i := fun j _ hj => Rat.mul_nonneg (by have := w.y1 j (by omega); grind) (O.nn j i (by omega))
    have n2 := gs_nn (f := fun j => (1 - y j) * initA ks j i) tn
    refine Rat.not_le.mp fun ge => ?_
    have z : gs (fun j => (1 - y j) * initA ks j i) ks.length 0 ≤ 0 := by grind
    have zj : ∀ j, j < ks.length → P j = false → initA ks j i = 0 := fun j hj pf => by
      have k1 := gs_one (f := fun j => (1 - y j) * initA ks j i) tn (Nat.zero_le j) (show j < 0 + ks.length by omega)
      have yl := (w.off j hj pf).1
      have a0 := O.nn j i hj
      have k2 : (1 - y j) * initA ks j i ≤ 0 := Rat.le_trans k1 z
      refine Rat.le_antisymm (Rat.not_lt.mp fun gt => ?_) a0
      have := Rat.mul_pos (show (0 : Rat) < 1 - y j by grind) gt
      grind
    have hh := h i hi p q
    rw [gs_ext (f := fun j => if P j then initA ks j i else 0) (g := fun j => initA ks j i) (c := ks.length) (k := 0) fun j _ hj => by
      cases pj : P j with
      | true => rfl
      | false => exact (zj j (by omega) pj).symm] at hh
    grind
  have s0 : ∀ i, i < ks.length → 0 ≤ gs (fun j => y j * initA ks j i) ks.length 0 := fun i hi => gs_nn fun j _ hj => Rat.mul_nonneg (Rat.le_of_lt (w.y0 j (by omega))) (O.nn j i (by omega))
  refine ⟨fun i => if P i && !Q i then (1 + gs (fun j => y j * initA ks j i) ks.length 0) / 2 else y i, ?_⟩
  have le : ∀ i, i < ks.length → (if P i && !Q i then (1 + gs (fun j => y j * initA ks j i) ks.length 0) / 2 else y i) ≤ y i := fun i hi => by
    split
    case isTrue c =>
      have p : P i = true := by
        cases e : P i with
        | true => rfl
        | false =>
          rw [e] at c
          cases c
      have q : Q i = false := by
        cases e : Q i with
        | false => rfl
        | true =>
          rw [e, p] at c
          cases c
      have k := low i hi p q
      rw [w.on i hi p]
      generalize gs _ ks.length 0 = s at *
      grind
    case isFalse => exact Rat.le_refl
  have sum : ∀ i, i < ks.length → gs (fun j => (if P j && !Q j then (1 + gs (fun j' => y j' * initA ks j' j) ks.length 0) / 2 else y j) * initA ks j i) ks.length 0 ≤ gs (fun j => y j * initA ks j i) ks.length 0 := fun i hi =>
    gs_le fun j _ hj => Rat.mul_le_mul_of_nonneg_right (le j (by omega)) (O.nn j i (by omega))
  refine ⟨fun i hi => ?_, fun i hi => Rat.le_trans (le i hi) (w.y1 i hi), fun i hi q => ?_, fun i hi q => ?_⟩
  · show 0 < if P i && !Q i then _ else _
    split
    · have k := s0 i hi
      generalize gs _ ks.length 0 = s at *
      grind
    · exact w.y0 i hi
  · show (if P i && !Q i then _ else _) = (1 : Rat)
    rw [q, Bool.not_true, Bool.and_false, if_neg (by decide)]
    exact w.on i hi (sub i hi q)
  · have sm := sum i hi
    show (if P i && !Q i then (1 + gs (fun j => y j * initA ks j i) ks.length 0) / 2 else y i) < 1 ∧ gs _ ks.length 0 < if P i && !Q i then (1 + gs (fun j => y j * initA ks j i) ks.length 0) / 2 else y i
    cases p : P i with
    | true =>
      have k := low i hi p q
      rw [q]
      show (if (true && !false) = true then (1 + gs (fun j => y j * initA ks j i) ks.length 0) / 2 else y i) < 1 ∧ _ < if (true && !false) = true then (1 + gs (fun j => y j * initA ks j i) ks.length 0) / 2 else y i
      rw [if_pos (show (true && !false) = true from rfl)]
      generalize gs (fun j => y j * initA ks j i) ks.length 0 = s at *
      exact ⟨by grind, by grind⟩
    | false =>
      obtain ⟨k1, k2⟩ := w.off i hi p
      show (if (false && !Q i) = true then _ else y i) < 1 ∧ _ < if (false && !Q i) = true then _ else y i
      rw [if_neg (by simp)]
      exact ⟨k1, by grind⟩
theorem Wt.none {ks : List Kq} {P : Nat → Bool} {y : Nat → Rat} (O : KsOk ks) (w : Wt ks P y) (h : ∀ i, i < ks.length → P i = false) : Sta 6000000 ks.length 0 ks.length (initA ks) y :=
  O.sta w.y0 fun j hj => (w.off j hj (h j hj)).2
/-- places by a test -/
def psF (P : Nat → Bool) (n : Nat) : List Nat := (List.range n).filter P
theorem zsum_psF (P : Nat → Bool) (g : Nat → Rat) : ∀ n, zsum ((psF P n).map g) = gs (fun i => if P i then g i else 0) n 0
  | 0 => rfl
  | n + 1 => by
    unfold psF
    rw [List.range_succ, List.filter_append, List.map_append, zsum_app, gs_snoc, Nat.zero_add]
    have ih := zsum_psF P g n
    unfold psF at ih
    rw [ih]
    cases e : P n with
    | true =>
      rw [List.filter_cons_of_pos e]
      show _ + zsum [g n] = _ + g n
      rw [zsum_one]
    | false =>
      rw [List.filter_cons_of_neg (by rw [e]; decide)]
      rfl
theorem psF_mem {P : Nat → Bool} {n i : Nat} : i ∈ psF P n ↔ i < n ∧ P i = true := by
  unfold psF
  rw [List.mem_filter, List.mem_range]
theorem psF_succ (P : Nat → Bool) (n : Nat) : psF P (n + 1) = psF P n ++ if P n then [n] else [] := by
  unfold psF
  rw [List.range_succ, List.filter_append]
  cases e : P n with
  | true => rw [List.filter_cons_of_pos e] <;> rfl
  | false => rw [List.filter_cons_of_neg (by rw [e]; decide)] <;> rfl
theorem psF_len {P Q : Nat → Bool} : ∀ {n : Nat}, (∀ i, i < n → P i = true → Q i = true) → (psF P n).length ≤ (psF Q n).length ∧ ((psF P n).length = (psF Q n).length → ∀ i, i < n → P i = Q i)
  | 0, _ => ⟨Nat.le_refl _, fun _ i hi => absurd hi (Nat.not_lt_zero i)⟩
  | n + 1, h => by
    obtain ⟨a, b⟩ := psF_len (n := n) fun i hi => h i (by omega)
    rw [psF_succ, psF_succ, List.length_append, List.length_append]
    have hn := h n (by omega)
    cases p : P n with
    | true =>
      rw [hn p]
      refine ⟨Nat.add_le_add_right a _, fun e i hi => ?_⟩
      by_cases l : i = n
      · rw [l, p, hn p]
      · exact b (by simpa using e) i (by omega)
    | false =>
      cases q : Q n with
      | true => exact ⟨Nat.le_trans a (Nat.le_add_right _ _), fun e => by
          simp only [Bool.false_eq_true, if_false, if_true, List.length_nil, List.length_cons] at e
          omega⟩
      | false =>
        refine ⟨a, fun e i hi => ?_⟩
        by_cases l : i = n
        · rw [l, p, q]
        · exact b (by simpa using e) i (by omega)
theorem psF_ext {P Q : Nat → Bool} {n : Nat} (h : ∀ i, i < n → P i = Q i) : psF P n = psF Q n := by
  unfold psF
  exact List.filter_congr fun i hi => h i (List.mem_range.mp hi)
theorem psF_nil {P : Nat → Bool} {n : Nat} : psF P n = [] ↔ ∀ i, i < n → P i = false := by
  unfold psF
  rw [List.filter_eq_nil_iff]
  constructor
  · intro h i hi
    have := h i (List.mem_range.mpr hi)
    cases e : P i with
    | false => rfl
    | true => exact absurd e this
  · intro h i hi e
    rw [h i (List.mem_range.mp hi)] at e
    cases e
/-- kinds of which together nothing is lost -/
structure FinK (ks : List Kq) (P : Nat → Bool) : Prop where
  dr : ∀ i, i < ks.length → P i = true → (kd ks i).drip = 1
  al : ∀ i, i < ks.length → P i = true → zsum (kd ks i).goes = 1
  st : ∀ i, i < ks.length → P i = true → ∀ j, j < ks.length → (kd ks i).goes.getD j 0 ≠ 0 → P j = true
structure Great (ks : List Kq) (P : Nat → Bool) : Prop where
  fine : FinK ks P
  all : ∀ S, FinK ks S → ∀ i, i < ks.length → S i = true → P i = true
theorem Great.one {ks : List Kq} {P Q : Nat → Bool} (a : Great ks P) (b : Great ks Q) : psF P ks.length = psF Q ks.length := psF_ext fun i hi => by
  cases p : P i with
  | true => exact (b.all P a.fine i hi p).symm
  | false =>
    cases q : Q i with
    | false => rfl
    | true =>
      have := a.all Q b.fine i hi q
      rw [p] at this
      cases this
theorem FinK.both {ks : List Kq} {P Q : Nat → Bool} (a : FinK ks P) (b : FinK ks Q) : FinK ks fun i => P i || Q i := by
  have either : ∀ i, (P i || Q i) = true → P i = true ∨ Q i = true := fun i h => by simpa using h
  refine ⟨fun i hi h => (either i h).elim (a.dr i hi) (b.dr i hi), fun i hi h => (either i h).elim (a.al i hi) (b.al i hi), fun i hi h j hj ne => ?_⟩
  rcases either i h with p | q
  · show (P j || Q j) = true
    rw [a.st i hi p j hj ne, Bool.true_or]
  · show (P j || Q j) = true
    rw [b.st i hi q j hj ne, Bool.or_true]
/-- the fine one of the most kinds is the greatest -/
theorem Great.most {ks : List Kq} {P : Nat → Bool} (a : FinK ks P) (h : ∀ S, FinK ks S → (psF S ks.length).length ≤ (psF P ks.length).length) : Great ks P := by
  refine ⟨a, fun S s i hi si => ?_⟩
  have u := h _ (s.both a)
  have k := psF_len (P := P) (Q := fun i => S i || P i) (n := ks.length) fun j _ p => by
    show (S j || P j) = true
    rw [p, Bool.or_true]
  have e := k.2 (Nat.le_antisymm k.1 u) i hi
  rw [e]
  show (S i || P i) = true
  rw [si, Bool.true_or]
/-- what is left of some places -/
def allTo (ks : List Kq) (P : Nat → Bool) (i : Nat) : Rat := zsum ((psF P ks.length).map fun j => (kd ks i).goes.getD j 0)
def nextP (ks : List Kq) (P : Nat → Bool) (i : Nat) : Bool := P i && decide (allTo ks P i = 1)
structure Left (ks : List Kq) (P : Nat → Bool) : Prop where
  w : ∃ y, Wt ks P y
  dr : ∀ i, i < ks.length → P i = true → (kd ks i).drip = 1
  all : ∀ S, FinK ks S → ∀ i, i < ks.length → S i = true → P i = true
theorem allTo_gs (ks : List Kq) (P : Nat → Bool) (i : Nat) : allTo ks P i = gs (fun j => if P j then (kd ks i).goes.getD j 0 else 0) ks.length 0 := zsum_psF P _ _
theorem allTo_le {ks : List Kq} (O : KsOk ks) {P : Nat → Bool} {i : Nat} (hi : i < ks.length) : 0 ≤ allTo ks P i ∧ allTo ks P i ≤ 1 := by
  rw [allTo_gs]
  refine ⟨gs_nn fun j _ _ => ?_, Rat.le_trans (gs_le (g := fun j => (kd ks i).goes.getD j 0) fun j _ _ => ?_) (Rat.le_trans (b := zsum (kd ks i).goes) (by rw [goes_gs (O.len _ (kd_mem hi))]; exact Rat.le_refl) (O.one _ (kd_mem hi)))⟩
  · show 0 ≤ if P j then _ else _
    split
    · exact (O.part hi j).lo
    · exact Rat.le_refl
  · show (if P j then _ else _) ≤ _
    split
    · exact Rat.le_refl
    · exact (O.part hi j).lo
theorem Left.first {ks : List Kq} (O : KsOk ks) : Left ks fun i => decide ((kd ks i).drip = 1) := by
  refine ⟨(Wt.all ks).less O (fun _ _ _ => rfl) fun i hi _ q => ?_, fun i _ h => of_decide_eq_true h, fun S s i hi si => decide_eq_true (s.dr i hi si)⟩
  have ne : (kd ks i).drip ≠ 1 := of_decide_eq_false q
  have p := (O.ok _ (kd_mem hi)).pd
  have lt : (kd ks i).drip < 1 := Rat.not_le.mp fun z => ne (Rat.le_antisymm p.hi z)
  show gs (fun j => if true then initA ks j i else 0) ks.length 0 < 1
  have e : gs (fun j => if true then initA ks j i else 0) ks.length 0 = gs (fun j => initA ks j i) ks.length 0 := gs_ext fun j _ _ => rfl
  rw [e, O.col hi]
  have k := Rat.mul_le_mul_of_nonneg_left (O.one _ (kd_mem hi)) p.lo
  rw [Rat.mul_one] at k
  grind
theorem Left.next {ks : List Kq} (O : KsOk ks) {P : Nat → Bool} (h : Left ks P) : Left ks (nextP ks P) := by
  obtain ⟨y, w⟩ := h.w
  have sub : ∀ i, nextP ks P i = true → P i = true ∧ allTo ks P i = 1 := fun i q => by
    unfold nextP at q
    have := Bool.and_eq_true _ _ ▸ q
    exact ⟨this.1, of_decide_eq_true this.2⟩
  refine ⟨w.less O (fun i _ q => (sub i q).1) fun i hi p q => ?_, fun i hi q => h.dr i hi (sub i q).1, fun S s i hi si => ?_⟩
  · have ne : allTo ks P i ≠ 1 := fun e => by
      unfold nextP at q
      rw [p, decide_eq_true e] at q
      cases q
    have lt : allTo ks P i < 1 := Rat.not_le.mp fun z => ne (Rat.le_antisymm (allTo_le O hi).2 z)
    rw [allTo_gs] at lt
    refine Rat.not_le.mp fun ge => absurd lt (Rat.not_lt.mpr (Rat.le_trans ge (gs_le fun j _ _ => ?_)))
    show (if P j then initA ks j i else 0) ≤ if P j then _ else _
    split
    · unfold initA
      rw [if_pos hi, h.dr i hi p, Rat.one_mul]
      exact Rat.le_refl
    · exact Rat.le_refl
  · have p := h.all S s i hi si
    unfold nextP
    rw [p, Bool.true_and]
    refine decide_eq_true ?_
    rw [allTo_gs, ← s.al i hi si, goes_gs (O.len _ (kd_mem hi))]
    refine gs_ext fun j _ hj => ?_
    show (if P j then _ else _) = _
    by_cases z : (kd ks i).goes.getD j 0 = 0
    · rw [z]
      split <;> rfl
    · rw [if_pos (h.all S s j (by omega) (s.st i hi si j (by omega) z))]
/-- where nothing more is left out nothing is lost -/
theorem Left.end_ {ks : List Kq} (O : KsOk ks) {P : Nat → Bool} (h : Left ks P) (e : ∀ i, i < ks.length → P i = true → allTo ks P i = 1) : Great ks P := by
  have full : ∀ i, i < ks.length → P i = true → zsum (kd ks i).goes = 1 ∧ ∀ j, j < ks.length → (kd ks i).goes.getD j 0 ≠ 0 → P j = true := fun i hi p => by
    have a := e i hi p
    have b := O.one _ (kd_mem hi)
    rw [goes_gs (O.len _ (kd_mem hi))] at b
    rw [goes_gs (O.len _ (kd_mem hi))]
    rw [allTo_gs] at a
    have s : gs (fun j => (kd ks i).goes.getD j 0) ks.length 0 = gs (fun j => if P j then (kd ks i).goes.getD j 0 else 0) ks.length 0 + gs (fun j => if P j then 0 else (kd ks i).goes.getD j 0) ks.length 0 := by
      rw [← gs_add]
      refine gs_ext fun j _ _ => ?_
      show _ = (if P j then _ else _) + (if P j then _ else _)
      cases P j with
      | true => exact (Rat.add_zero _).symm
      | false => exact (Rat.zero_add _).symm
    have nn : ∀ j, 0 ≤ j → j < 0 + ks.length → 0 ≤ (if P j then 0 else (kd ks i).goes.getD j 0) := fun j _ hj => by
      split
      · exact Rat.le_refl
      · exact (O.part hi j).lo
    have n2 := gs_nn (f := fun j => if P j then 0 else (kd ks i).goes.getD j 0) nn
    refine ⟨by grind, fun j hj ne => ?_⟩
    cases p' : P j with
    | true => rfl
    | false =>
      have k := gs_one (f := fun j => if P j then 0 else (kd ks i).goes.getD j 0) nn (Nat.zero_le j) (show j < 0 + ks.length by omega)
      rw [p'] at k
      have k : (kd ks i).goes.getD j 0 ≤ gs (fun j => if P j then 0 else (kd ks i).goes.getD j 0) ks.length 0 := k
      exact absurd (Rat.le_antisymm (by grind) (O.part hi j).lo) ne
  exact ⟨⟨h.dr, fun i hi p => (full i hi p).1, fun i hi p => (full i hi p).2⟩, h.all⟩
/-! the steady state -/
section
variable {ks : List Kq}
theorem sol_len (ks : List Kq) : (solQ ks).length = ks.length := by
  unfold solQ
  rw [List.length_map, List.length_range]
theorem sol_get {i : Nat} (h : i < ks.length) : (solQ ks)[i]? = some (stgA (initA ks) ks.length i ks.length) := by
  unfold solQ
  rw [List.getElem?_map, List.getElem?_range h] <;> rfl
theorem fresh_at {i : Nat} (h : i < ks.length) : (ks.map (·.fresh)).getD i 0 = (kd ks i).fresh := by
  rw [List.getD_eq_getElem?_getD, List.getElem?_map, List.getElem?_eq_getElem h, kd_at (List.getElem?_eq_getElem h)] <;> rfl
theorem comes_gs {qs : List Rat} (h : qs.length = ks.length) (p : Nat) : zsum (comes ks qs p) = gs (fun j => (kd ks j).drip * (kd ks j).goes.getD p 0 * qs.getD j 0) ks.length 0 := by
  rw [← gs_range]
  refine congrArg zsum (List.ext_getElem? fun j => ?_)
  rw [List.getElem?_map]
  by_cases hj : j < ks.length
  · have e1 : qs[j]? = some qs[j] := List.getElem?_eq_getElem (by omega)
    have e2 := List.getElem?_eq_getElem hj
    rw [comes_get e1 e2, List.getElem?_range hj]
    show some _ = some ((kd ks j).drip * (kd ks j).goes.getD p 0 * qs.getD j 0)
    rw [kd_at e2, List.getD_eq_getElem?_getD (l := qs), e1]
    refine congrArg some ?_
    show qs[j] * ks[j].drip * ks[j].goes.getD p 0 = ks[j].drip * ks[j].goes.getD p 0 * qs[j]
    generalize ks[j].goes.getD p 0 = g
    grind
  · rw [List.getElem?_eq_none (by rw [comes_len h]; omega), List.getElem?_eq_none (by rw [List.length_range]; omega)] <;> rfl
theorem once_gs {qs : List Rat} (h : qs.length = ks.length) {p : Nat} (hp : p < ks.length) : onceAt ks qs p = gs (fun j => initA ks p j * qs.getD j 0) ks.length 0 + initA ks p ks.length := by
  unfold onceAt
  rw [fresh_at hp, comes_gs h]
  have e : gs (fun j => (kd ks j).drip * (kd ks j).goes.getD p 0 * qs.getD j 0) ks.length 0 = gs (fun j => initA ks p j * qs.getD j 0) ks.length 0 := gs_ext fun j _ hj => by
    show _ = initA ks p j * _
    unfold initA
    rw [if_pos (by omega)]
  rw [e]
  unfold initA
  rw [if_neg (Nat.lt_irrefl _), Rat.add_comm]
variable (O : KsOk ks) {y : Nat → Rat} (s : Sta 6000000 ks.length 0 ks.length (initA ks) y)
include O s
theorem sol_sat : Sat ks.length (initA ks) fun i => stgA (initA ks) ks.length i ks.length := by
  obtain ⟨M, z⟩ := O.szs
  exact sat_end s z
theorem sol_once : onceQ ks (solQ ks) = solQ ks := by
  refine List.ext_getElem? fun i => ?_
  by_cases hi : i < ks.length
  · rw [once_get hi, sol_get hi, once_gs (sol_len ks) hi]
    refine congrArg some ?_
    refine Eq.trans ?_ (sol_sat O s i hi).symm
    refine congrArg (· + initA ks i ks.length) (gs_ext fun j _ hj => ?_)
    show _ * _ = _ * _
    rw [List.getD_eq_getElem?_getD, sol_get (by omega)] <;> rfl
  · rw [List.getElem?_eq_none (by rw [once_len]; omega), List.getElem?_eq_none (by rw [sol_len]; omega)]
theorem sol_facts : ∃ D, 0 < D ∧ D ≤ fS ks.length ∧ ∀ q ∈ solQ ks, Dv D q ∧ 0 ≤ q ∧ q ≤ ((6000000 * vS ks.length : Nat) : Int) := by
  obtain ⟨M, z⟩ := O.szs
  obtain ⟨D, d0, d1, all⟩ := end_facts s z
  refine ⟨D, d0, d1, fun q hq => ?_⟩
  unfold solQ at hq
  obtain ⟨i, hi, rfl⟩ := List.mem_map.mp hq
  exact all i (List.mem_range.mp hi)
theorem sol_am : ∃ M B, AmOk M B (solQ ks) := by
  obtain ⟨D, d0, d1, all⟩ := sol_facts O s
  refine ⟨D, 6000000 * vS ks.length, fun q hq => (all q hq).1, fun q hq => (all q hq).2.1, fun q hq => (all q hq).2.2, d0, Nat.mul_pos (by decide) (vS_pos _), ?_⟩
  have h1 := vS_up O.l6
  have h2 := fS_up O.l6
  exact Nat.lt_of_le_of_lt (Nat.mul_le_mul (Nat.add_le_add_right (Nat.mul_le_mul_left 6 (Nat.mul_le_mul_left 6000000 h1)) 1000000) (Nat.mul_le_mul_right 768398400 (Nat.le_trans d1 h2)))
    (by decide +kernel : (6 * (6000000 * vS 6) + 1000000) * (fS 6 * 768398400) < 2 ^ 4300)
theorem sol_step {k : Nat} (h : k < ks.length) : StepOk ks.length k (stgA (initA ks) k) := by
  obtain ⟨M, z⟩ := O.szs
  exact stage_ok s z O.l6 h
end
/-- so much more fresh sugar -/
def moreK (i : Int) (k : Kq) : Kq := ⟨i * k.fresh, k.drip, k.goes⟩
theorem sol_more (i : Int) (ks : List Kq) : solQ (ks.map (moreK i)) = (solQ ks).map fun q => (i : Rat) * q := by
  have len : (ks.map (moreK i)).length = ks.length := List.length_map _
  have at_ : ∀ j, j < ks.length → kd (ks.map (moreK i)) j = moreK i (kd ks j) := fun j hj => by
    rw [kd_at (List.getElem?_eq_getElem hj)]
    exact kd_at (by rw [List.getElem?_map, List.getElem?_eq_getElem hj] <;> rfl)
  have off : ∀ j, ¬ j < ks.length → kd (ks.map (moreK i)) j = ⟨0, 0, []⟩ := fun j hj => by
    unfold kd
    rw [List.getD_eq_getElem?_getD, List.getElem?_eq_none (by rw [len]; omega)] <;> rfl
  have off' : ∀ j, ¬ j < ks.length → kd ks j = ⟨0, 0, []⟩ := fun j hj => by
    unfold kd
    rw [List.getD_eq_getElem?_getD, List.getElem?_eq_none (by omega)] <;> rfl
  have k := stg_twice (n := ks.length) (i : Rat) (A := initA ks) (B := initA (ks.map (moreK i))) (fun a j hj => by
    unfold initA
    rw [if_pos hj, if_pos (by rw [len]; exact hj), at_ j hj] <;> rfl) (fun a => by
    unfold initA
    rw [if_neg (Nat.lt_irrefl _), if_neg (by rw [len]; exact Nat.lt_irrefl _)]
    by_cases ha : a < ks.length
    · rw [at_ a ha]
      exact Rat.intCast_mul _ _
    · rw [off a ha, off' a ha]
      exact (Rat.mul_zero _).symm) ks.length (Nat.le_refl _)
  unfold solQ
  rw [len, List.map_map]
  exact List.map_congr_left fun j _ => k.2 j
/-- places as values -/
def ri (ps : List Nat) : List V := ps.map fun i : Nat => V.int (i : Int)
theorem ri_len (ps : List Nat) : (ri ps).length = ps.length := List.length_map _
theorem ri_get {ps : List Nat} {j : Nat} {v : V} (h : (ri ps)[j]? = some v) : ∃ i, ps[j]? = some i ∧ v = .int (i : Int) := by
  unfold ri at h
  rw [List.getElem?_map] at h
  cases e : ps[j]? with
  | none =>
    rw [e] at h
    cases h
  | some i =>
    rw [e] at h
    exact ⟨i, rfl, (Option.some.inj h).symm⟩
theorem ri_snoc (ps : List Nat) (i : Nat) : ri (ps ++ [i]) = ri ps ++ [.int (i : Int)] := by
  unfold ri
  rw [List.map_append] <;> rfl
/-- a place that is there -/
theorem ixN_nat {n i : Nat} (h : i < n) : ixN n (i : Int) = some i := by
  unfold ixN
  rw [if_pos (by omega), if_pos (by omega), Int.toNat_natCast]
/-- a row of fractions by its function -/
def RowL (n : Nat) (r : Nat → Rat) (l : List Fz) : Prop := l.map (·.2) = (List.range (n + 1)).map r
theorem RowL.len {n : Nat} {r : Nat → Rat} {l : List Fz} (h : RowL n r l) : l.length = n + 1 := by
  have e := congrArg List.length h
  rw [List.length_map, List.length_map, List.length_range] at e
  exact e
theorem RowL.get {n : Nat} {r : Nat → Rat} {l : List Fz} (h : RowL n r l) {j : Nat} {z : Fz} (e : l[j]? = some z) : z.2 = r j ∧ j < n + 1 := by
  have lt := (List.getElem?_eq_some_iff.mp e).1
  rw [h.len] at lt
  have k := rz_q e
  rw [show l.map (·.2) = _ from h, List.getElem?_map, List.getElem?_range lt] at k
  exact ⟨(Option.some.inj k).symm, lt⟩
theorem RowL.at_ {n : Nat} {r : Nat → Rat} {l : List Fz} (h : RowL n r l) {j : Nat} (lt : j < n + 1) : ∃ z : Fz, l[j]? = some z ∧ z.2 = r j := by
  have e : l[j]? = some (l[j]'(by rw [h.len]; exact lt)) := List.getElem?_eq_getElem _
  exact ⟨_, e, (h.get e).1⟩
theorem RowL.of {n : Nat} {r : Nat → Rat} {l : List Fz} (len : l.length = n + 1) (h : ∀ (j : Nat) (z : Fz), l[j]? = some z → z.2 = r j) : RowL n r l := by
  refine List.ext_getElem? fun j => ?_
  rw [List.getElem?_map]
  by_cases lt : j < n + 1
  · have e : l[j]? = some (l[j]'(by omega)) := List.getElem?_eq_getElem _
    rw [List.getElem?_map, List.getElem?_range lt, e]
    exact congrArg some (h j _ e)
  · rw [List.getElem?_eq_none (by omega), List.getElem?_eq_none (by rw [List.length_map, List.length_range]; omega)] <;> rfl
theorem rz_at {l : List Fz} {j : Nat} {z : Fz} (h : l[j]? = some z) : (rz l)[j]? = some (.ref z.1) := by
  unfold rz
  rw [List.getElem?_map, h] <;> rfl
theorem rk_at {l : List Kn} {j : Nat} {k : Kn} (h : l[j]? = some k) : (rk l)[j]? = some (.ref k.a) := by
  unfold rk
  rw [List.getElem?_map, h] <;> rfl
/-- one of a list's or a tuple's -/
theorem ix_seqB {K : PySem.W.Frag} {H : Hp} {a : Addr} {xs : List V} {p : Bool} {i : Nat} {v : V} {Q : VK} (h : SqB K H a xs p) (g : xs[i]? = some v) (q : Q v H) : rIx K (.ref a) (.int (i : Int)) H Q := by
  cases p with
  | true => exact .inl ⟨a, xs, _, v, rfl, rfl, h, at_of rfl g, q⟩
  | false => exact .inr (.inl ⟨a, xs, _, v, rfl, rfl, h, at_of rfl g, q⟩)
theorem kn_kd {ks : List Kn} {j : Nat} {k : Kn} (h : ks[j]? = some k) : kd (ks.map Kn.q) j = k.q := kd_at (by rw [List.getElem?_map, h] <;> rfl)
/-- the first of a row -/
def PreL (r : Nat → Rat) (l : List Fz) : Prop := ∀ (j : Nat) (z : Fz), l[j]? = some z → z.2 = r j
theorem PreL.nil {r : Nat → Rat} : PreL r [] := fun j z e => by
  rw [List.getElem?_nil] at e
  cases e
theorem PreL.snoc {r : Nat → Rat} {l : List Fz} {z : Fz} (h : PreL r l) (e : z.2 = r l.length) : PreL r (l ++ [z]) := fun j y g => by
  rcases Nat.lt_or_ge j l.length with lt | ge
  · rw [List.getElem?_append_left lt] at g
    exact h j y g
  · rw [List.getElem?_append_right ge] at g
    have j0 : j - l.length = 0 := by
      rcases Nat.eq_zero_or_pos (j - l.length) with z0 | p0
      · exact z0
      · rw [List.getElem?_eq_none (by show 1 ≤ _; omega)] at g
        cases g
    rw [j0] at g
    cases g
    rw [e, show j = l.length by omega]
theorem PreL.set {r : Nat → Rat} {l : List Fz} {i : Nat} {z : Fz} (h : ∀ (j : Nat) (y : Fz), j ≠ i → l[j]? = some y → y.2 = r j) (e : z.2 = r i) : PreL r (l.set i z) := fun j y g => by
  by_cases c : j = i
  · subst c
    have lt : j < l.length := by
      have := (List.getElem?_eq_some_iff.mp g).1
      rwa [List.length_set] at this
    rw [List.getElem?_set_self lt] at g
    cases g
    exact e
  · rw [List.getElem?_set_ne (fun z => c z.symm)] at g
    exact h j y c g
theorem snoc_len {α : Type} {l : List α} {x : α} {n : Nat} (h : l.length = n) : (l ++ [x]).length = n + 1 := by
  rw [List.length_append, h] <;> rfl
theorem mem_upto {l : List Fz} {z : Fz} (h : z ∈ l) : ∃ j : Nat, l[j]? = some z := by
  obtain ⟨j, hj, e⟩ := List.getElem_of_mem h
  exact ⟨j, by rw [← e]; exact List.getElem?_eq_getElem hj⟩
/-- lists of places beside one another -/
theorem eqv_ints : ∀ (a b : List Int), PyData.eqvAll (a.map PyData.int) (b.map PyData.int) = decide (a = b)
  | [], [] => rfl
  | [], _ :: _ => rfl
  | _ :: _, [] => rfl
  | x :: a, y :: b => by
    show (PyData.eqv (.int x) (.int y) && PyData.eqvAll (a.map PyData.int) (b.map PyData.int)) = _
    rw [eqv_ints a b]
    show (decide (x = y) && _) = _
    by_cases c : x = y
    · subst c
      by_cases d : a = b
      · subst d
        simp
      · simp [d]
    · simp [c]
def dpi (ps : List Nat) : PyData := .list ((ps.map fun i : Nat => (i : Int)).map PyData.int)
theorem dpi_eqv (a b : List Nat) : PyData.eqv (dpi a) (dpi b) = decide (a = b) := by
  refine (eqv_ints _ _).trans ?_
  rw [decide_eq_decide]
  refine ⟨fun h => ?_, fun h => by rw [h]⟩
  exact List.map_inj_right (fun x y e => by omega) |>.mp h
theorem ints_dps {K : PySem.W.Frag} {H : Hp} : ∀ (ps : List Nat), DpAll K H (ri ps) ((ps.map fun i : Nat => (i : Int)).map PyData.int)
  | [] => .nil
  | i :: r => .cons (.int _) (ints_dps r)
theorem ri_dp {K : PySem.W.Frag} {H : Hp} {a : Addr} {ps : List Nat} (h : SqL K H a (ri ps)) : Dp K H (.ref a) (dpi ps) := .lst h (ints_dps ps)
theorem dpi_shaped (ps : List Nat) : SeqAt.shaped (dpi ps) = true := flat_shaped (m := 1) (flat_list (m := 0) fun d hd => by
  obtain ⟨i, _, rfl⟩ := List.mem_map.mp hd
  exact ⟨rfl, Nat.le_refl _⟩) (by decide)
theorem KnL.ks {K : PySem.W.Frag} {H : Hp} {ks : List Kn} (L : KnL K H ks.length ks) (l6 : ks.length ≤ 6) : KsOk (ks.map Kn.q) := by
  refine ⟨fun k hk => ?_, fun k hk => ?_, fun k hk => ?_, by rw [List.length_map]; exact l6⟩
  · obtain ⟨kn, h, rfl⟩ := List.mem_map.mp hk
    exact (L kn h).q
  · obtain ⟨kn, h, rfl⟩ := List.mem_map.mp hk
    show (kn.goes.map (·.2)).length = _
    rw [List.length_map, List.length_map, (L kn h).go.len]
  · obtain ⟨kn, h, rfl⟩ := List.mem_map.mp hk
    exact (L kn h).go.one
theorem one_eqv (q : Rat) : PyData.eqv (dq q) (dq 1) = decide (q = 1) := eqv_dq q 1
theorem psF_step {P : Nat → Bool} {i : Nat} : psF P (i + 1) = if P i = true then psF P i ++ [i] else psF P i := by
  rw [psF_succ]
  split
  · rfl
  · exact List.append_nil _
theorem psF_le (P : Nat → Bool) (n : Nat) : (psF P n).length ≤ n := by
  have k := List.length_filter_le P (List.range n)
  rw [List.length_range] at k
  exact k
/-- some of the first ones, by a test -/
theorem psF_filter (P Q : Nat → Bool) (n : Nat) : (psF P n).filter Q = psF (fun i => P i && Q i) n := by
  unfold psF
  rw [List.filter_filter]
  exact List.filter_congr fun i _ => by rw [Bool.and_comm]
theorem take_filter {α : Type} {Q : α → Bool} {l : List α} {j : Nat} {x : α} (h : l[j]? = some x) : (l.take (j + 1)).filter Q = if Q x = true then (l.take j).filter Q ++ [x] else (l.take j).filter Q := by
  rw [take_one h, List.filter_append]
  cases e : Q x with
  | true => rw [List.filter_cons_of_pos e, if_pos rfl] <;> rfl
  | false =>
    rw [List.filter_cons_of_neg (by rw [e]; decide), if_neg (by decide)]
    exact List.append_nil _
/-- rows of rows -/
abbrev Rw := Addr × List Fz
def rv (rs : List Rw) : List V := rs.map fun r => V.ref r.1
theorem rv_len (rs : List Rw) : (rv rs).length = rs.length := List.length_map _
theorem rv_get {rs : List Rw} {j : Nat} {v : V} (h : (rv rs)[j]? = some v) : ∃ r, rs[j]? = some r ∧ v = .ref r.1 := by
  unfold rv at h
  rw [List.getElem?_map] at h
  cases e : rs[j]? with
  | none =>
    rw [e] at h
    cases h
  | some r =>
    rw [e] at h
    exact ⟨r, rfl, (Option.some.inj h).symm⟩
theorem rv_at {rs : List Rw} {j : Nat} {r : Rw} (h : rs[j]? = some r) : (rv rs)[j]? = some (.ref r.1) := by
  unfold rv
  rw [List.getElem?_map, h] <;> rfl
theorem rv_snoc (rs : List Rw) (r : Rw) : rv (rs ++ [r]) = rv rs ++ [.ref r.1] := by
  unfold rv
  rw [List.map_append] <;> rfl
theorem rv_set (rs : List Rw) (i : Nat) (r : Rw) : (rv rs).set i (.ref r.1) = rv (rs.set i r) := by
  unfold rv
  rw [List.map_set]
structure RwOk (K : PySem.W.Frag) (H : Hp) (n : Nat) (f : Nat → Rat) (r : Rw) : Prop where
  at_ : H r.1 = some (.lst (rz r.2))
  fl : FL K H r.2
  ro : RowL n f r.2
theorem RwOk.same {K : PySem.W.Frag} {H H' : Hp} {n : Nat} {f : Nat → Rat} {r : Rw} (h : RwOk K H n f r) (s : Same H H') : RwOk K H' n f r := ⟨s _ _ h.at_, h.fl.same s, h.ro⟩
theorem RwOk.put {K : PySem.W.Frag} {H : Hp} {n : Nat} {f : Nat → Rat} {r : Rw} {q : Addr} {xs ys : List V} (h : RwOk K H n f r) (hq : H q = some (.lst xs)) (ne : r.1 ≠ q) : RwOk K (upd H q (.lst ys)) n f r := ⟨by rw [upd_ne ne]; exact h.at_, h.fl.put hq, h.ro⟩
/-- the first of the rows, beside the list that holds them -/
def RwL (K : PySem.W.Frag) (H : Hp) (n : Nat) (A : Nat → Nat → Rat) (q : Addr) (rs : List Rw) : Prop := ∀ (i : Nat) (r : Rw), rs[i]? = some r → RwOk K H n (A i) r ∧ r.1 ≠ q
theorem RwL.nil {K : PySem.W.Frag} {H : Hp} {n : Nat} {A : Nat → Nat → Rat} {q : Addr} : RwL K H n A q [] := fun i r e => by
  rw [List.getElem?_nil] at e
  cases e
theorem RwL.same {K : PySem.W.Frag} {H H' : Hp} {n : Nat} {A : Nat → Nat → Rat} {q : Addr} {rs : List Rw} (h : RwL K H n A q rs) (s : Same H H') : RwL K H' n A q rs := fun i r e => ⟨(h i r e).1.same s, (h i r e).2⟩
theorem RwL.put {K : PySem.W.Frag} {H : Hp} {n : Nat} {A : Nat → Nat → Rat} {q : Addr} {rs : List Rw} {xs ys : List V} (h : RwL K H n A q rs) (hq : H q = some (.lst xs)) : RwL K (upd H q (.lst ys)) n A q rs := fun i r e => ⟨(h i r e).1.put hq (h i r e).2, (h i r e).2⟩
theorem RwL.snoc {K : PySem.W.Frag} {H : Hp} {n : Nat} {A : Nat → Nat → Rat} {q : Addr} {rs : List Rw} {z : Rw} (h : RwL K H n A q rs) (k : RwOk K H n (A rs.length) z) (ne : z.1 ≠ q) : RwL K H n A q (rs ++ [z]) := fun j y g => by
  rcases Nat.lt_or_ge j rs.length with lt | ge
  · rw [List.getElem?_append_left lt] at g
    exact h j y g
  · rw [List.getElem?_append_right ge] at g
    have j0 : j - rs.length = 0 := by
      rcases Nat.eq_zero_or_pos (j - rs.length) with z0 | p0
      · exact z0
      · rw [List.getElem?_eq_none (by show 1 ≤ _; omega)] at g
        cases g
    rw [j0] at g
    cases g
    rw [show j = rs.length by omega]
    exact ⟨k, ne⟩
theorem lenV_seqB {K : PySem.W.Frag} {H : Hp} {a : Addr} {xs : List V} {p : Bool} (h : SqB K H a xs p) : LenV K (.ref a) H xs.length := by
  cases p with
  | true => exact .inl ⟨xs, h, rfl⟩
  | false => exact .inr ⟨xs, h, rfl⟩
theorem at_last {l : List Fz} {n : Nat} {z : Fz} (len : l.length = n + 1) (e : l[n]? = some z) : atI (rz l) (-1) = some (.ref z.1) := by
  unfold atI ixN
  rw [rz_len, len, if_neg (by omega), if_pos (by omega)]
  show (rz l)[(-1 + ((n + 1 : Nat) : Int)).toNat]? = _
  rw [show (-1 + ((n + 1 : Nat) : Int)).toNat = n by omega]
  exact rz_at e
theorem sol_pre {ks : List Kq} {l : List Fz} (len : l.length = ks.length) (h : PreL (fun i => stgA (initA ks) ks.length i ks.length) l) : l.map (·.2) = solQ ks := by
  refine List.ext_getElem? fun j => ?_
  by_cases lt : j < ks.length
  · have e : l[j]? = some (l[j]'(by omega)) := List.getElem?_eq_getElem _
    rw [List.getElem?_map, e, sol_get lt]
    exact congrArg some (h j _ e)
  · rw [List.getElem?_eq_none (by rw [List.length_map]; omega), List.getElem?_eq_none (by rw [sol_len]; omega)]
/-- what strays from some places -/
def strayP (g : Nat → Rat) (ps : List Nat) (i : Nat) : Bool := !decide (g i = 0) && !decide (i ∈ ps)
theorem inV_ri (ps : List Nat) (i : Nat) : inV (.int (i : Int)) (ri ps) = decide (i ∈ ps) := by
  induction ps with
  | nil => rfl
  | cons j r ih =>
    show (eqV (.int (j : Int)) (.int (i : Int)) || inV (.int (i : Int)) (ri r)) = _
    rw [ih]
    have e : eqV (.int (j : Int)) (.int (i : Int)) = decide (i = j) := by
      show decide ((j : Int) = (i : Int)) = _
      rw [decide_eq_decide]
      omega
    rw [e]
    simp
theorem flat_ri (ps : List Nat) : (ri ps).all flatV = true := by
  induction ps with
  | nil => rfl
  | cons j r ih =>
    show (flatV (.int (j : Int)) && (ri r).all flatV) = true
    rw [ih] <;> rfl
/-- places by bits -/
def bitP (b i : Nat) : Bool := decide (b / 2 ^ i % 2 = 1)
theorem bits_all : ∀ (n : Nat) (S : Nat → Bool), ∃ b, b < 2 ^ n ∧ ∀ i, i < n → bitP b i = S i
  | 0, _ => ⟨0, by decide, fun i h => absurd h (Nat.not_lt_zero i)⟩
  | n + 1, S => by
    obtain ⟨b, lt, e⟩ := bits_all n fun i => S (i + 1)
    refine ⟨2 * b + if S 0 then 1 else 0, ?_, fun i hi => ?_⟩
    · rw [Nat.pow_succ]
      split <;> omega
    · cases i with
      | zero =>
        unfold bitP
        rw [Nat.pow_zero, Nat.div_one]
        cases S 0 with
        | true =>
          rw [if_pos rfl]
          exact decide_eq_true (by omega)
        | false =>
          rw [if_neg (by decide)]
          exact decide_eq_false (by omega)
      | succ i =>
        rw [← e i (by omega)]
        unfold bitP
        rw [Nat.pow_succ', ← Nat.div_div_eq_div_mul]
        have : (2 * b + if S 0 then 1 else 0) / 2 = b := by split <;> omega
        rw [this]
theorem FinK.of_eq {ks : List Kq} {P R : Nat → Bool} (h : FinK ks P) (e : ∀ i, i < ks.length → R i = P i) : FinK ks R :=
  ⟨fun i hi r => h.dr i hi (by rw [← e i hi]; exact r), fun i hi r => h.al i hi (by rw [← e i hi]; exact r), fun i hi r j hj ne => by rw [e j hj]; exact h.st i hi (by rw [← e i hi]; exact r) j hj ne⟩
/-- a test of the law's for some places -/
def fineA (ks : List Kq) (i : Nat) : Bool := decide ((kd ks i).drip = 1) && decide (zsum (kd ks i).goes = 1)
def fineB (ks : List Kq) (P : Nat → Bool) (i : Nat) : Bool := decide (psF (strayP (fun j => (kd ks i).goes.getD j 0) (psF P ks.length)) ks.length = [])
theorem fine_iff (ks : List Kq) (P : Nat → Bool) : ((psF P ks.length).all (fineA ks) && (psF P ks.length).all (fineB ks P)) = true ↔ FinK ks P := by
  rw [Bool.and_eq_true, List.all_eq_true, List.all_eq_true]
  constructor
  · rintro ⟨a, b⟩
    have sp : ∀ i, i < ks.length → P i = true → (kd ks i).drip = 1 ∧ zsum (kd ks i).goes = 1 := fun i hi p => by
      have k := a i (psF_mem.mpr ⟨hi, p⟩)
      unfold fineA at k
      rw [Bool.and_eq_true] at k
      exact ⟨of_decide_eq_true k.1, of_decide_eq_true k.2⟩
    refine ⟨fun i hi p => (sp i hi p).1, fun i hi p => (sp i hi p).2, fun i hi p j hj ne => ?_⟩
    have k := of_decide_eq_true (b i (psF_mem.mpr ⟨hi, p⟩))
    have z := psF_nil.mp k j hj
    unfold strayP at z
    rw [decide_eq_false ne, Bool.not_false, Bool.true_and] at z
    have m : j ∈ psF P ks.length := by
      cases c : decide (j ∈ psF P ks.length) with
      | true => exact of_decide_eq_true c
      | false =>
        rw [c] at z
        cases z
    exact (psF_mem.mp m).2
  · intro F
    refine ⟨fun i hi => ?_, fun i hi => ?_⟩
    · obtain ⟨lt, p⟩ := psF_mem.mp hi
      unfold fineA
      rw [decide_eq_true (F.dr i lt p), decide_eq_true (F.al i lt p)] <;> rfl
    · obtain ⟨lt, p⟩ := psF_mem.mp hi
      unfold fineB
      refine decide_eq_true (psF_nil.mpr fun j hj => ?_)
      unfold strayP
      by_cases z : (kd ks i).goes.getD j 0 = 0
      · rw [decide_eq_true z] <;> rfl
      · rw [decide_eq_true (psF_mem.mpr ⟨hj, F.st i lt p j hj z⟩), Bool.not_true, Bool.and_false]
/-- the best of the first choices -/
structure Best (ks : List Kq) (b : Nat) (P : Nat → Bool) : Prop where
  fine : FinK ks P
  most : ∀ c, c < b → FinK ks (bitP c) → (psF (bitP c) ks.length).length ≤ (psF P ks.length).length
theorem Best.zero (ks : List Kq) : Best ks 0 fun _ => false := ⟨⟨fun _ _ h => Bool.noConfusion h, fun _ _ h => Bool.noConfusion h, fun _ _ h => Bool.noConfusion h⟩, fun c h => absurd h (Nat.not_lt_zero c)⟩
theorem Best.keep {ks : List Kq} {b : Nat} {P : Nat → Bool} (h : Best ks b P) (k : FinK ks (bitP b) → (psF (bitP b) ks.length).length ≤ (psF P ks.length).length) : Best ks (b + 1) P := ⟨h.fine, fun c lt f => by
  by_cases e : c = b
  · subst e
    exact k f
  · exact h.most c (by omega) f⟩
theorem Best.more {ks : List Kq} {b : Nat} {P : Nat → Bool} (h : Best ks b P) (f : FinK ks (bitP b)) (k : (psF P ks.length).length < (psF (bitP b) ks.length).length) : Best ks (b + 1) (bitP b) := ⟨f, fun c lt g => by
  by_cases e : c = b
  · subst e
    exact Nat.le_refl _
  · exact Nat.le_trans (h.most c (by omega) g) (Nat.le_of_lt k)⟩
theorem Best.great {ks : List Kq} {P : Nat → Bool} (h : Best ks (2 ^ ks.length) P) : Great ks P := Great.most h.fine fun S s => by
  obtain ⟨b, lt, e⟩ := bits_all ks.length S
  have k := h.most b lt (s.of_eq e)
  rw [psF_ext e] at k
  exact k
theorem all_map {α : Type} (l : List α) (f : α → Bool) : (l.map f).all id = l.all f := by
  rw [List.all_map] <;> rfl
/-- one of the kinds drips half -/
def halfQ : Rat := ⟨1, 2, by decide, by decide⟩
def halfK (k : Kq) : Kq := ⟨k.fresh, halfQ, k.goes⟩
theorem half_less {ks : List Kq} {i : Nat} {k : Kq} (e : ks[i]? = some k) (one : k.drip = 1) : (psF (fun j => decide ((kd (ks.set i (halfK k)) j).drip = 1)) (ks.set i (halfK k)).length).length < (psF (fun j => decide ((kd ks j).drip = 1)) ks.length).length := by
  have lt := (List.getElem?_eq_some_iff.mp e).1
  rw [List.length_set]
  have at_ : ∀ j, j < ks.length → kd (ks.set i (halfK k)) j = if j = i then halfK k else kd ks j := fun j hj => by
    by_cases c : j = i
    · subst c
      rw [if_pos rfl]
      exact kd_at (List.getElem?_set_self hj)
    · rw [if_neg c]
      unfold kd
      rw [List.getD_eq_getElem?_getD, List.getD_eq_getElem?_getD, List.getElem?_set_ne fun z => c z.symm]
  have half : ¬ (halfK k).drip = 1 := by
    show ¬ halfQ = 1
    decide
  have s := psF_len (P := fun j => decide ((kd (ks.set i (halfK k)) j).drip = 1)) (Q := fun j => decide ((kd ks j).drip = 1)) (n := ks.length) fun j hj h => by
    have h := of_decide_eq_true h
    rw [at_ j hj] at h
    split at h
    · exact absurd h half
    · exact decide_eq_true h
  rcases Nat.lt_or_ge (psF (fun j => decide ((kd (ks.set i (halfK k)) j).drip = 1)) ks.length).length (psF (fun j => decide ((kd ks j).drip = 1)) ks.length).length with l | ge
  · exact l
  · have k1 := s.2 (Nat.le_antisymm s.1 ge) i lt
    rw [at_ i lt, if_pos rfl, kd_at e, decide_eq_false half, decide_eq_true one] at k1
    cases k1
theorem half_part : Part halfQ := ⟨by decide, by decide, by decide⟩
theorem KnL.put {K : PySem.W.Frag} {H : Hp} {n : Nat} {ks : List Kn} {q : Addr} {xs ys : List V} (h : KnL K H n ks) (hq : H q = some (.lst xs)) : KnL K (upd H q (.lst ys)) n ks := fun k hk => (h k hk).put hq
theorem rk_set (ks : List Kn) (i : Nat) (k : Kn) : (rk ks).set i (.ref k.a) = rk (ks.set i k) := by
  unfold rk
  rw [List.map_set]
theorem dq_dps {K : PySem.W.Frag} {H : Hp} {a : Addr} {l : List Fz} (h : SqL K H a (rz l)) (f : FL K H l) : Dp K H (.ref a) (.list (l.map fun z => dq z.2)) := .lst h f.dps
theorem dqs_shaped (l : List Fz) : SeqAt.shaped (PyData.list (l.map fun z => dq z.2)) = true := flat_shaped (m := 2) (flat_list (flat_qs l)) (by decide)
theorem dqs_same {l m : List Fz} (h : l.map (·.2) = m.map (·.2)) : (l.map fun z => dq z.2) = m.map fun z => dq z.2 := by
  have e : ∀ l : List Fz, (l.map fun z => dq z.2) = (l.map (·.2)).map dq := fun l => by rw [List.map_map] <;> rfl
  rw [e, e, h]
theorem Great.more {ks : List Kq} {i : Int} {P : Nat → Bool} (h : Great (ks.map (moreK i)) P) : Great ks P := by
  have len : (ks.map (moreK i)).length = ks.length := List.length_map _
  have at_ : ∀ j, j < ks.length → kd (ks.map (moreK i)) j = moreK i (kd ks j) := fun j hj => by
    rw [kd_at (List.getElem?_eq_getElem hj)]
    exact kd_at (by rw [List.getElem?_map, List.getElem?_eq_getElem hj] <;> rfl)
  have to : ∀ {S}, FinK ks S → FinK (ks.map (moreK i)) S := fun {S} s => ⟨fun j hj p => by
    rw [len] at hj
    rw [at_ j hj]
    exact s.dr j hj p, fun j hj p => by
    rw [len] at hj
    rw [at_ j hj]
    exact s.al j hj p, fun j hj p j' hj' ne => by
    rw [len] at hj hj'
    rw [at_ j hj] at ne
    exact s.st j hj p j' hj' ne⟩
  refine ⟨⟨fun j hj p => ?_, fun j hj p => ?_, fun j hj p j' hj' ne => ?_⟩, fun S s j hj p => h.all S (to s) j (by rw [len]; exact hj) p⟩
  · have k := h.fine.dr j (by rw [len]; exact hj) p
    rw [at_ j hj] at k
    exact k
  · have k := h.fine.al j (by rw [len]; exact hj) p
    rw [at_ j hj] at k
    exact k
  · refine h.fine.st j (by rw [len]; exact hj) p j' (by rw [len]; exact hj') ?_
    rw [at_ j hj]
    exact ne
theorem fresh_le {K : PySem.W.Frag} {H : Hp} {n : Nat} {ks : List Kn} (L : KnL K H n ks) : ∀ k ∈ ks, k.fresh ≤ (ks.map (·.fresh)).sum := by
  have all : ∀ l : List Kn, (∀ k ∈ l, 0 ≤ k.fresh) → 0 ≤ (l.map (·.fresh)).sum ∧ ∀ k ∈ l, k.fresh ≤ (l.map (·.fresh)).sum := fun l => by
    induction l with
    | nil => exact fun _ => ⟨Int.le_refl _, fun k h => absurd h List.not_mem_nil⟩
    | cons x r ih =>
      intro h
      have h1 := h x List.mem_cons_self
      obtain ⟨h2, h3⟩ := ih fun y hy => h y (List.mem_cons_of_mem _ hy)
      rw [List.map_cons, List.sum_cons]
      refine ⟨by omega, fun k hk => ?_⟩
      rcases List.mem_cons.mp hk with e | m
      · rw [e]
        omega
      · have := h3 k m
        omega
  exact (all ks fun k hk => (L k hk).f0).2
end KR
/-! ### gaps between amounts -/
namespace KR
open PySem PySem.Spec PyProof.Rows L2
def absQ (q : Rat) : Rat := if q < 0 then -q else q
theorem absQ_nn (q : Rat) : 0 ≤ absQ q := by
  unfold absQ
  split <;> grind
theorem absQ_neg (q : Rat) : absQ (-q) = absQ q := by
  unfold absQ
  split <;> split <;> grind
theorem absQ_le {q u : Rat} (h1 : q ≤ u) (h2 : -u ≤ q) : absQ q ≤ u := by
  unfold absQ
  split <;> grind
theorem absQ_add (p q : Rat) : absQ (p + q) ≤ absQ p + absQ q := by
  unfold absQ
  split <;> split <;> split <;> grind
theorem absQ_mul {p q : Rat} (h : 0 ≤ q) : absQ (p * q) = absQ p * q := by
  unfold absQ
  by_cases c : p < 0
  · rw [if_pos c]
    by_cases d : p * q < 0
    · rw [if_pos d]
      grind
    · rw [if_neg d]
      have k := Rat.mul_le_mul_of_nonneg_right (Rat.le_of_lt c) h
      grind
  · rw [if_neg c]
    have k := Rat.mul_nonneg (Rat.not_lt.mp c) h
    rw [if_neg (by grind)]
theorem absQ_zero : absQ 0 = 0 := rfl
theorem Dv.abs {M : Nat} {q : Rat} (h : Dv M q) : Dv M (absQ q) := by
  unfold absQ
  split
  · exact h.neg
  · exact h
/-- a fraction without its sign -/
theorem abs_at {K : PySem.W.Frag} {H : Hp} {t : Addr} {q : Rat} (h : H t = some (.tup [.int (if q.num < 0 then -q.num else q.num), .int (q.den : Int)])) : FrQ K H t (absQ q) := by
  have nz : (q.num < 0) ↔ q < 0 := by
    have := Rat.num_nonneg (q := q)
    constructor
    · intro a
      refine Rat.not_le.mp fun b => ?_
      have := this.mpr b
      omega
    · intro a
      refine Int.not_le.mp fun b => ?_
      exact absurd a (Rat.not_lt.mpr (this.mp b))
  unfold absQ
  by_cases c : q < 0
  · rw [if_pos (nz.mpr c)] at h
    rw [if_pos c]
    exact .of (by rw [Rat.neg_num, Rat.neg_den]; exact h)
  · rw [if_neg fun z => c (nz.mp z)] at h
    rw [if_neg c]
    exact .of h
def gapsQ (a b : List Rat) : List Rat := List.zipWith (fun x y => absQ (x - y)) a b
def gapQ (a b : List Rat) : Rat := zsum (gapsQ a b)
theorem gaps_len {a b : List Rat} (h : a.length = b.length) : (gapsQ a b).length = a.length := by
  unfold gapsQ
  rw [List.length_zipWith, ← h, Nat.min_self]
theorem gaps_get {a b : List Rat} {j : Nat} {x y : Rat} (h1 : a[j]? = some x) (h2 : b[j]? = some y) : (gapsQ a b)[j]? = some (absQ (x - y)) := by
  unfold gapsQ
  rw [List.getElem?_zipWith, h1, h2]
theorem gaps_mem {a b : List Rat} {r : Rat} (h : r ∈ gapsQ a b) : ∃ x ∈ a, ∃ y ∈ b, r = absQ (x - y) := by
  obtain ⟨j, hj, e⟩ := List.getElem_of_mem h
  have hj' := hj
  unfold gapsQ at hj'
  rw [List.length_zipWith] at hj'
  have g := gaps_get (List.getElem?_eq_getElem (show j < a.length by omega)) (List.getElem?_eq_getElem (show j < b.length by omega))
  rw [List.getElem?_eq_getElem hj, e] at g
  exact ⟨_, List.getElem_mem _, _, List.getElem_mem _, Option.some.inj g⟩
theorem gaps_comm : ∀ (a b : List Rat), gapsQ a b = gapsQ b a
  | [], [] => rfl
  | [], _ :: _ => rfl
  | _ :: _, [] => rfl
  | x :: a, y :: b => by
    show absQ (x - y) :: gapsQ a b = absQ (y - x) :: gapsQ b a
    rw [gaps_comm a b, ← absQ_neg (y - x)]
    refine congrArg (· :: gapsQ b a) (congrArg absQ ?_)
    grind
/-- what has a common bottom and a bound -/
structure AmB (M B : Nat) (qs : List Rat) : Prop where
  dv : ∀ q ∈ qs, Dv M q
  lo : ∀ q ∈ qs, 0 ≤ q
  hi : ∀ q ∈ qs, q ≤ ((B : Int) : Rat)
  hM : 0 < M
  hB : 1 ≤ B
/-- gaps that may be reckoned -/
structure GapOk (a b : List Rat) : Prop where
  ba : ∀ q ∈ a, Big q
  bb : ∀ q ∈ b, Big q
  bd : ∀ x ∈ a, ∀ y ∈ b, Big (x - y)
  bg : ∀ q ∈ gapsQ a b, Big q
  add : AddOk (gapsQ a b)
  bz : Big (gapQ a b)
theorem AmB.gap {M B N C : Nat} {a b : List Rat} (h : AmB M B a) (k : AmB N C b) (l6 : a.length ≤ 6) (fit : 20 * (B + C) * (M * N) < 2 ^ 4400) : GapOk a b := by
  have mn : 0 < M * N := Nat.mul_pos h.hM k.hM
  have hB := h.hB
  have hC := k.hB
  have all : ∀ r ∈ gapsQ a b, Dv (M * N) r ∧ 0 ≤ r ∧ r ≤ ((B + C : Nat) : Int) := fun r hr => by
    obtain ⟨x, hx, y, hy, rfl⟩ := gaps_mem hr
    refine ⟨(((h.dv x hx).up (Nat.dvd_mul_right _ _)).sub ((k.dv y hy).up (Nat.dvd_mul_left _ _))).abs, absQ_nn _, ?_⟩
    have x1 := h.hi x hx
    have y1 := k.hi y hy
    have x0 := h.lo x hx
    have y0 := k.lo y hy
    have b0 := cast_nn (show (0 : Int) ≤ (B : Int) by omega)
    have c0 := cast_nn (show (0 : Int) ≤ (C : Int) by omega)
    rw [Int.natCast_add, Rat.intCast_add]
    refine absQ_le ?_ ?_ <;> grind
  have big : ∀ (n : Nat) (q : Rat), Dv (M * N) q → 0 ≤ q → q ≤ ((n : Int) : Rat) → 1 ≤ n → n ≤ 20 * (B + C) → Big q := fun n q d lo hi n1 n2 =>
    d.szN (B := n) mn lo hi n1 (Nat.lt_of_le_of_lt (Nat.mul_le_mul_right _ n2) fit)
  have s : zsum (gapsQ a b) ≤ ((20 * (B + C) : Nat) : Int) := by
    have k1 := zsum_le fun r hr => (all r hr).2.2
    rw [← Rat.intCast_mul] at k1
    refine Rat.le_trans k1 (Rat.intCast_le_intCast.mpr ?_)
    have len : (gapsQ a b).length ≤ 20 := by
      unfold gapsQ
      rw [List.length_zipWith]
      omega
    have := Nat.mul_le_mul_right (B + C) len
    rw [← Int.natCast_mul]
    omega
  refine ⟨fun q hq => ?_, fun q hq => ?_, fun x hx y hy => ?_, fun q hq => ?_, ?_, ?_⟩
  · exact big B q ((h.dv q hq).up (Nat.dvd_mul_right _ _)) (h.lo q hq) (h.hi q hq) hB (by omega)
  · exact big C q ((k.dv q hq).up (Nat.dvd_mul_left _ _)) (k.lo q hq) (k.hi q hq) hC (by omega)
  · have d := ((h.dv x hx).up (Nat.dvd_mul_right M N)).sub ((k.dv y hy).up (Nat.dvd_mul_left N M))
    have x1 := h.hi x hx
    have y1 := k.hi y hy
    have x0 := h.lo x hx
    have y0 := k.lo y hy
    have b0 := cast_nn (show (0 : Int) ≤ (B : Int) by omega)
    have c0 := cast_nn (show (0 : Int) ≤ (C : Int) by omega)
    refine d.sz (B := B + C) mn ?_ ?_ (by omega) (Nat.lt_of_le_of_lt (Nat.mul_le_mul_right _ (by omega)) fit)
    · rw [Int.natCast_add, Rat.intCast_add]
      grind
    · rw [Int.natCast_add, Rat.intCast_add]
      grind
  · exact big (B + C) q (all q hq).1 (all q hq).2.1 (all q hq).2.2 (by omega) (by omega)
  · exact sum_big (fun q hq => (all q hq).1) (fun q hq => (all q hq).2.1) s mn (by omega) fit
  · exact big _ _ (Dv.all fun q hq => (all q hq).1) (zsum_nn fun q hq => (all q hq).2.1) s (by omega) (Nat.le_refl _)
theorem AmB.rounds {M B : Nat} {ks : List Kq} {qs : List Rat} (h : AmB M B qs) (hk : ∀ k ∈ ks, KqOk k) (l6 : ks.length ≤ 6) (lq : qs.length = ks.length) (fit : (6 * bR B 41 + 1000000) * (M * 768398400 ^ 42) < 2 ^ 4300) : ∀ r, r ≤ 41 → AmOk (M * 768398400 ^ r) (bR B r) (roundsQ ks r qs) ∧ AmB (M * 768398400 ^ 41) (bR B 41) (roundsQ ks r qs) := fun r hr => by
  have a := rounds_ok hk l6 lq h.dv h.lo h.hi h.hM h.hB (N := 41) fit r hr
  refine ⟨a, fun q hq => (a.dv q hq).up (Nat.mul_dvd_mul_left _ (Nat.pow_dvd_pow _ hr)), a.lo, fun q hq => Rat.le_trans (a.hi q hq) (Rat.intCast_le_intCast.mpr (by have := bR_mono B hr; omega)), Nat.mul_pos h.hM (Nat.pow_pos (by decide)), bR_pos h.hB _⟩
theorem sol_amb {ks : List Kq} {y : Nat → Rat} (O : KsOk ks) (s : Sta 6000000 ks.length 0 ks.length (initA ks) y) : ∃ D, D ≤ fS ks.length ∧ AmB D (6000000 * vS ks.length) (solQ ks) := by
  obtain ⟨D, d0, d1, all⟩ := sol_facts O s
  exact ⟨D, d1, fun q hq => (all q hq).1, fun q hq => (all q hq).2.1, fun q hq => (all q hq).2.2, d0, Nat.mul_pos (by decide) (vS_pos _)⟩
/-- the first round from which on a gap is at most so much -/
def TillV (g : Nat → Rat) (m : Rat) (v : V) : Prop := (∃ r : Nat, r ≤ 40 ∧ (∀ j, j < r → m < g j) ∧ ¬ m < g r ∧ v = .int (r : Int)) ∨ ((∀ j, j ≤ 40 → m < g j) ∧ v = .non)
theorem TillV.one {g : Nat → Rat} {m : Rat} {v w : V} (a : TillV g m v) (b : TillV g m w) : v = w := by
  rcases a with ⟨r, r1, r2, r3, rfl⟩ | ⟨n1, rfl⟩
  · rcases b with ⟨t, t1, t2, t3, rfl⟩ | ⟨n2, rfl⟩
    · have e : r = t := by
        rcases Nat.lt_trichotomy r t with h | h | h
        · exact absurd (t2 r h) r3
        · exact h
        · exact absurd (r2 t h) t3
      rw [e]
    · exact absurd (n2 r r1) r3
  · rcases b with ⟨t, t1, t2, t3, rfl⟩ | ⟨n2, rfl⟩
    · exact absurd (n1 t t1) t3
    · rfl
theorem TillV.ext {g h : Nat → Rat} {m : Rat} {v : V} (a : TillV g m v) (e : ∀ r, r ≤ 40 → g r = h r) : TillV h m v := by
  rcases a with ⟨r, r1, r2, r3, rfl⟩ | ⟨n1, rfl⟩
  · exact .inl ⟨r, r1, fun j hj => by rw [← e j (by omega)]; exact r2 j hj, by rw [← e r r1]; exact r3, rfl⟩
  · exact .inr ⟨fun j hj => by rw [← e j hj]; exact n1 j hj, rfl⟩
theorem TillV.dat {g : Nat → Rat} {m : Rat} {v : V} (a : TillV g m v) {K : PySem.W.Frag} {H : Hp} : ∃ (d : PyData) (t : String), Dp K H v d ∧ SeqAt.shaped d = true ∧ TyX K H v (.type t) ∧ kitB t "bool" = some false := by
  rcases a with ⟨r, _, _, _, rfl⟩ | ⟨_, rfl⟩
  · exact ⟨_, "int", .int _, rfl, .base (.int _), by decide +kernel⟩
  · exact ⟨_, "NoneType", .non, rfl, .base .non, by decide +kernel⟩
theorem TillV.nought {g : Nat → Rat} {m : Rat} {v : V} (a : TillV g m v) (h : g 0 ≤ m) : v = .int ((0 : Nat) : Int) := by
  rcases a with ⟨r, _, r2, _, rfl⟩ | ⟨n1, _⟩
  · rcases Nat.eq_zero_or_pos r with e | e
    · rw [e]
    · exact absurd (r2 0 e) (Rat.not_lt.mpr h)
  · exact absurd (n1 0 (by decide)) (Rat.not_lt.mpr h)
def sp_lessW (K : PySem.W.Frag) : Sp := fun vs H Q _ => ∃ (x y : Addr) (p q : Rat), vs = [.ref x, .ref y] ∧ FrQ K H x p ∧ FrQ K H y q ∧ Big p ∧ Big q ∧ Q (.bl (decide (p < q))) H
def sp_aboveW (K : PySem.W.Frag) : Sp := fun vs H Q _ => ∃ (x y : Addr) (p q : Rat), vs = [.ref x, .ref y] ∧ FrQ K H x p ∧ FrQ K H y q ∧ Big p ∧ Big q ∧ Q (.bl (decide (q < p))) H
/-! a round never widens a gap -/
theorem gap_nn (a b : List Rat) : ∀ q ∈ gapsQ a b, 0 ≤ q := fun q hq => by
  obtain ⟨x, _, y, _, rfl⟩ := gaps_mem hq
  exact absQ_nn _
theorem comes_gap (p : Nat) : ∀ (ks : List Kq) (a b : List Rat), (∀ k ∈ ks, KqOk k) → a.length = ks.length → b.length = ks.length → absQ (zsum (comes ks a p) - zsum (comes ks b p)) ≤ zsum (comes ks (gapsQ a b) p)
  | [], [], [], _, _, _ => by
    show absQ (0 - 0) ≤ 0
    rw [show (0 : Rat) - 0 = 0 by grind, absQ_zero]
    exact Rat.le_refl
  | k :: ks, x :: a, y :: b, hk, ha, hb => by
    have ih := comes_gap p ks a b (fun k h => hk k (List.mem_cons_of_mem _ h)) (Nat.succ.inj ha) (Nat.succ.inj hb)
    have K := hk k List.mem_cons_self
    have w : 0 ≤ k.drip * k.goes.getD p 0 := Rat.mul_nonneg K.pd.lo (K.at_ p).lo
    show absQ (x * k.drip * k.goes.getD p 0 + zsum (comes ks a p) - (y * k.drip * k.goes.getD p 0 + zsum (comes ks b p))) ≤ absQ (x - y) * k.drip * k.goes.getD p 0 + zsum (comes ks (gapsQ a b) p)
    generalize zsum (comes ks a p) = za at *
    generalize zsum (comes ks b p) = zb at *
    generalize zsum (comes ks (gapsQ a b) p) = zc at *
    generalize k.goes.getD p 0 = g at *
    have e : x * k.drip * g + za - (y * k.drip * g + zb) = (x - y) * (k.drip * g) + (za - zb) := by grind
    rw [e]
    have t := absQ_add ((x - y) * (k.drip * g)) (za - zb)
    rw [absQ_mul w] at t
    generalize absQ (x - y) = u at *
    grind
  | [], _ :: _, _, _, h, _ => by simp at h
  | [], [], _ :: _, _, _, h => by simp at h
  | _ :: _, [], _, _, h, _ => by simp at h
  | _ :: _, _ :: _, [], _, _, h => by simp at h
theorem gaps_map {α : Type} (f g : α → Rat) (l : List α) : gapsQ (l.map f) (l.map g) = l.map fun p => absQ (f p - g p) := by
  induction l with
  | nil => rfl
  | cons x r ih =>
    show absQ (f x - g x) :: gapsQ (r.map f) (r.map g) = _
    rw [ih] <;> rfl
theorem zsum_map_le {α : Type} {f g : α → Rat} {l : List α} (h : ∀ x ∈ l, f x ≤ g x) : zsum (l.map f) ≤ zsum (l.map g) := by
  induction l with
  | nil => exact Rat.le_refl
  | cons x r ih =>
    have h1 := h x List.mem_cons_self
    have h2 := ih fun y hy => h y (List.mem_cons_of_mem _ hy)
    show f x + zsum (r.map f) ≤ g x + zsum (r.map g)
    grind
theorem kept_le : ∀ (ks : List Kq) (qs : List Rat), (∀ k ∈ ks, KqOk k ∧ zsum k.goes ≤ 1) → (∀ q ∈ qs, 0 ≤ q) → zsum (keptQ ks qs) ≤ zsum qs
  | [], qs, _, h => by
    have e : keptQ [] qs = [] := by
      unfold keptQ
      cases qs <;> rfl
    rw [e]
    exact zsum_nn h
  | k :: ks, [], _, _ => Rat.le_refl
  | k :: ks, q :: qs, hk, h => by
    have ih := kept_le ks qs (fun k h => hk k (List.mem_cons_of_mem _ h)) fun y hy => h y (List.mem_cons_of_mem _ hy)
    obtain ⟨K, one⟩ := hk k List.mem_cons_self
    have q0 := h q List.mem_cons_self
    obtain ⟨a1, a2⟩ := mul_part q0 Rat.le_refl K.pd.lo K.pd.hi
    have b := mul_part a1 a2 (zsum_nn fun x hx => (K.pg x hx).lo) one
    show q * k.drip * zsum k.goes + zsum (keptQ ks qs) ≤ q + zsum qs
    generalize q * k.drip * zsum k.goes = u at *
    grind
theorem gap_once {ks : List Kq} {a b : List Rat} (O : KsOk ks) (ha : a.length = ks.length) (hb : b.length = ks.length) : gapQ (onceQ ks a) (onceQ ks b) ≤ gapQ a b := by
  unfold gapQ
  have e : gapsQ (onceQ ks a) (onceQ ks b) = (List.range ks.length).map fun p => absQ (onceAt ks a p - onceAt ks b p) := gaps_map _ _ _
  rw [e]
  refine Rat.le_trans (zsum_map_le (g := fun p => zsum (comes ks (gapsQ a b) p)) fun p _ => ?_) ?_
  · have k := comes_gap p ks a b O.ok ha hb
    have e2 : onceAt ks a p - onceAt ks b p = zsum (comes ks a p) - zsum (comes ks b p) := by
      unfold onceAt
      generalize zsum (comes ks a p) = za
      generalize zsum (comes ks b p) = zb
      grind
    rw [e2]
    exact k
  · rw [comes_sum ks.length ks (gapsQ a b) O.len]
    exact kept_le ks _ (fun k h => ⟨O.ok k h, O.one k h⟩) (gap_nn a b)
theorem gap_self (a : List Rat) : gapQ a a = 0 := by
  unfold gapQ
  induction a with
  | nil => rfl
  | cons x r ih =>
    show absQ (x - x) + zsum (gapsQ r r) = 0
    rw [ih, show x - x = 0 by grind, absQ_zero, Rat.add_zero]
/-! amounts of at most three kinds -/
def B3 : Nat := 6000000 * vS 3 + 1000
def D3 : Nat := fS 3 * 6000
structure Am3 (q : Rat) : Prop where
  lo : 0 ≤ q
  hi : q ≤ ((B3 : Int) : Rat)
  bt : q.den ≤ D3
theorem prodD_le {N : Nat} : ∀ {l : List Rat}, (∀ q ∈ l, q.den ≤ N) → prodD l ≤ N ^ l.length
  | [], _ => Nat.le_refl _
  | q :: r, h => by
    have ih := prodD_le (l := r) fun y hy => h y (List.mem_cons_of_mem _ hy)
    rw [List.length_cons, Nat.pow_succ, Nat.mul_comm (N ^ r.length)]
    exact Nat.mul_le_mul (h q List.mem_cons_self) ih
theorem am3_amb {qs : List Rat} (h : ∀ q ∈ qs, Am3 q) (l3 : qs.length ≤ 3) : AmB (prodD qs) B3 qs ∧ prodD qs ≤ D3 ^ 3 := by
  refine ⟨⟨fun q hq => (Dv.den q).up (prodD_dvd hq), fun q hq => (h q hq).lo, fun q hq => (h q hq).hi, prodD_pos qs, by decide +kernel⟩, ?_⟩
  exact Nat.le_trans (prodD_le fun q hq => (h q hq).bt) (Nat.pow_le_pow_right (by decide +kernel) l3)
theorem Dv.den_le {D : Nat} {q : Rat} (h : Dv D q) (d0 : 0 < D) : q.den ≤ D := by
  obtain ⟨z, e⟩ := h
  have eq : q = KR.rq z (D : Int) := by
    have h := int_ne (show (D : Int) ≠ 0 by omega)
    unfold KR.rq
    rw [← e]
    generalize ((D : Int) : Rat) = y at *
    grind
  have k := KR.den_le (t := z) (show (0 : Int) < (D : Int) by omega)
  rw [← eq] at k
  omega
theorem Am3.small {q : Rat} (h : AmS q) : Am3 q :=
  ⟨h.lo, Rat.le_trans h.hi (Rat.intCast_le_intCast.mpr (by decide +kernel)), Nat.le_trans h.bt (by decide +kernel)⟩
theorem Am3.sol {ks : List Kq} {y : Nat → Rat} (O : KsOk ks) (s : Sta 6000000 ks.length 0 ks.length (initA ks) y) (l3 : ks.length ≤ 3) : ∀ q ∈ solQ ks, Am3 q := fun q hq => by
  obtain ⟨D, d0, d1, all⟩ := sol_facts O s
  obtain ⟨dv, lo, hi⟩ := all q hq
  have h1 := vS_up l3
  have h2 := fS_up l3
  refine ⟨lo, Rat.le_trans hi (Rat.intCast_le_intCast.mpr ?_), Nat.le_trans (dv.den_le d0) (Nat.le_trans (Nat.le_trans d1 h2) (by decide +kernel))⟩
  have : 6000000 * vS ks.length ≤ B3 := Nat.le_trans (Nat.mul_le_mul_left _ h1) (Nat.le_add_right _ _)
  omega
theorem unit_low {b : Int} (hb : 0 < b) : IsLow 1 b := ⟨hb, Nat.gcd_one_left _⟩
theorem low_frq {K : PySem.W.Frag} {H : Hp} {x : Addr} {a b : Int} (h : H x = some (.tup [.int a, .int b])) (l : IsLow a b) : FrQ K H x (rq a b) := by
  have e := rq_low (t := a) (b := b) (by have := l.pos; omega)
  rw [low_id l] at e
  have e1 : (rq a b).num = a := (congrArg Prod.fst e).symm
  have e2 : ((rq a b).den : Int) = b := (congrArg Prod.snd e).symm
  exact .of (by rw [e1, e2]; exact h)
theorem Am3.near {ks : List Kq} {y : Nat → Rat} (O : KsOk ks) (s : Sta 6000000 ks.length 0 ks.length (initA ks) y) (l3 : ks.length ≤ 3) {b : Int} (b0 : 1 ≤ b) (b1 : b ≤ 100) : ∀ q ∈ solQ ks, Am3 (q + rq 1 b) := fun q hq => by
  obtain ⟨D, d0, d1, all⟩ := sol_facts O s
  obtain ⟨dv, lo, hi⟩ := all q hq
  have h1 := vS_up l3
  have h2 := fS_up l3
  have r0 := rq_nn (t := 1) (b := b) (by decide) (by omega)
  have r1 := rq_le_one (t := 1) (b := b) b0 (by omega)
  have db : Dv (D * b.natAbs) (q + rq 1 b) := (dv.up (Nat.dvd_mul_right _ _)).add ((Dv.rq (by omega)).up (Nat.dvd_mul_left _ _))
  refine ⟨by grind, ?_, Nat.le_trans (db.den_le (Nat.mul_pos d0 (by omega))) ?_⟩
  · have k : ((6000000 * vS ks.length : Nat) : Int) + 1 ≤ (B3 : Int) := by
      have : 6000000 * vS ks.length + 1 ≤ B3 := Nat.add_le_add (Nat.mul_le_mul_left _ h1) (by decide)
      omega
    have k2 := Rat.intCast_le_intCast.mpr k
    rw [Rat.intCast_add] at k2
    have o : ((1 : Int) : Rat) = 1 := rfl
    rw [o] at k2
    grind
  · exact Nat.le_trans (Nat.mul_le_mul (Nat.le_trans d1 h2) (show b.natAbs ≤ 100 by omega)) (by decide +kernel)
section
variable {ks : List Kq} {a b : List Rat} (O : KsOk ks) (l3 : ks.length ≤ 3) (ha : ∀ q ∈ a, Am3 q) (la : a.length = ks.length)
include O l3 ha la
theorem rounds3 : ∃ M, M ≤ D3 ^ 3 ∧ 0 < M ∧ ∀ r, r ≤ 41 → AmOk (M * 768398400 ^ r) (bR B3 r) (roundsQ ks r a) ∧ AmB (M * 768398400 ^ 41) (bR B3 41) (roundsQ ks r a) := by
  obtain ⟨h, m⟩ := am3_amb ha (by omega)
  exact ⟨_, m, h.hM, h.rounds O.ok (by omega) la (Nat.lt_of_le_of_lt (Nat.mul_le_mul_left _ (Nat.mul_le_mul_right _ m)) (by decide +kernel : (6 * bR B3 41 + 1000000) * (D3 ^ 3 * 768398400 ^ 42) < 2 ^ 4300))⟩
theorem gap3 (hb : ∀ q ∈ b, Am3 q) (lb : b.length = ks.length) (r : Nat) (hr : r ≤ 41) : GapOk (roundsQ ks r a) b := by
  obtain ⟨M, m1, m0, h⟩ := rounds3 O l3 ha la
  obtain ⟨h2, n1⟩ := am3_amb hb (by omega)
  exact (h r hr).2.gap h2 (by rw [rounds_len la]; omega) (Nat.lt_of_le_of_lt (Nat.mul_le_mul_left _ (Nat.mul_le_mul (Nat.mul_le_mul_right _ m1) n1)) (by decide +kernel : 20 * (bR B3 41 + B3) * (D3 ^ 3 * 768398400 ^ 41 * D3 ^ 3) < 2 ^ 4400))
theorem gap3o (hb : ∀ q ∈ b, Am3 q) (lb : b.length = ks.length) : GapOk (onceQ ks a) (onceQ ks b) := by
  obtain ⟨M, m1, m0, h⟩ := rounds3 O l3 ha la
  obtain ⟨N, n1, n0, g⟩ := rounds3 O l3 hb lb
  exact (h 1 (by decide)).2.gap (g 1 (by decide)).2 (by rw [rounds_len la]; omega) (Nat.lt_of_le_of_lt (Nat.mul_le_mul_left _ (Nat.mul_le_mul (Nat.mul_le_mul_right _ m1) (Nat.mul_le_mul_right _ n1))) (by decide +kernel : 20 * (bR B3 41 + bR B3 41) * (D3 ^ 3 * 768398400 ^ 41 * (D3 ^ 3 * 768398400 ^ 41)) < 2 ^ 4400))
end
/-! amounts of up to six kinds -/
section
variable {ks : List Kq} {a : List Rat} (O : KsOk ks) (ha : ∀ q ∈ a, AmS q) (la : a.length = ks.length)
include O ha la
theorem rounds6 : ∃ M, M ≤ 60 ^ 6 ∧ 0 < M ∧ ∀ r, r ≤ 41 → AmOk (M * 768398400 ^ r) (bR 1000 r) (roundsQ ks r a) ∧ AmB (M * 768398400 ^ 41) (bR 1000 41) (roundsQ ks r a) := by
  have l6 := O.l6
  have m : prodD a ≤ 60 ^ 6 := Nat.le_trans (prodD_60 fun q hq => (ha q hq).bt) (Nat.pow_le_pow_right (by decide) (by omega))
  have h : AmB (prodD a) 1000 a := ⟨fun q hq => (Dv.den q).up (prodD_dvd hq), fun q hq => (ha q hq).lo, fun q hq => (ha q hq).hi, prodD_pos a, by decide⟩
  exact ⟨_, m, h.hM, h.rounds O.ok l6 la (Nat.lt_of_le_of_lt (Nat.mul_le_mul_left _ (Nat.mul_le_mul_right _ m)) (by decide +kernel : (6 * bR 1000 41 + 1000000) * (60 ^ 6 * 768398400 ^ 42) < 2 ^ 4300))⟩
theorem gap6 {y : Nat → Rat} (s : Sta 6000000 ks.length 0 ks.length (initA ks) y) (r : Nat) (hr : r ≤ 41) : GapOk (roundsQ ks r a) (solQ ks) := by
  obtain ⟨M, m1, m0, h⟩ := rounds6 O ha la
  obtain ⟨D, d1, g⟩ := sol_amb O s
  have l6 := O.l6
  have h1 := vS_up l6
  have h2 := fS_up l6
  refine (h r hr).2.gap g (by rw [rounds_len la]; exact l6) (Nat.lt_of_le_of_lt (Nat.mul_le_mul (Nat.mul_le_mul_left 20 (Nat.add_le_add_left (Nat.mul_le_mul_left 6000000 h1) _)) (Nat.mul_le_mul (Nat.mul_le_mul_right _ m1) (Nat.le_trans d1 h2))) (by decide +kernel : 20 * (bR 1000 41 + 6000000 * vS 6) * (60 ^ 6 * 768398400 ^ 41 * fS 6) < 2 ^ 4400))
end
def sp_gap (K : PySem.W.Frag) : Sp := fun vs H Q _ => ∃ (x y : Addr) (a b : List Fz) (p1 p2 : Bool), vs = [.ref x, .ref y] ∧ SqB K H x (rz a) p1 ∧ SqB K H y (rz b) p2 ∧ FL K H a ∧ FL K H b ∧ a.length = b.length ∧ a.length ≤ 6 ∧ GapOk (a.map (·.2)) (b.map (·.2)) ∧ ∀ z H', Same H H' → FrQ K H' z (gapQ (a.map (·.2)) (b.map (·.2))) → Q (.ref z) H'
theorem neg_at {K : PySem.W.Frag} {H : Hp} {t : Addr} {q : Rat} (h : H t = some (.tup [.int (0 - q.num), .int (q.den : Int)])) : FrQ K H t (-q) :=
  .of (by rw [Rat.neg_num, Rat.neg_den, ← Int.zero_sub]; exact h)
/-! the greatest of a tuple of numbers -/
theorem max_intTuple {prog : Program} {w : World} {A : Around} {E : Value → Shared → Prop} {s : Shared} {l : Addr} {xs : Array (Int × Tok)} {Q : Value → Shared → Prop} (hh : A.handled = none) (hl : s.heap.IsTuple l (intItems xs)) (hne : 0 < xs.size)
    (h : ∀ v h' tk, (intItems xs)[argBest (fun i j => decide (numAt xs i > numAt xs j)) (xs.size - 1)]? = some v → (∀ b o, s.heap.get? b = some o → h'.get? b = some o) → Q v { s with heap := h', toks := tk }) :
    wpAny (model prog w) A (call (.builtin "max") [.ref l]) Q E s := by
  have hlt : l < s.heap.objs.size := by obtain ⟨_, e, _⟩ := id hl; exact Heap.lt_size e
  refine call_max_walk (wpAny_pyIter_tuple hl ?_)
  refine ⟨_, [_, l], [_], _, _, _, _, rfl, Walks.tuple (A := A.in1) hh s.heap.objs.size l (Nat.ne_of_lt hlt) (intItems xs), ⟨⟨_, Heap.get?_push_size _ rfl, rfl, rfl⟩, hl.push _⟩, fun c hc => ?_, by simpa [intItems] using hne, CmpOf.ints_gt (numAt xs) (fun _ _ => intItems_at), fun v h' tk hP hk => ?_⟩
  · show c < (s.heap.push _).objs.size
    rw [Heap.size_push]
    rcases List.mem_cons.mp hc with rfl | hc
    · exact Nat.lt_succ_self _
    · rcases List.mem_cons.mp hc with rfl | hc
      · exact Nat.lt_succ_of_lt hlt
      · cases hc
  · refine h v h' tk (by simpa [intItems] using hP) fun b o e => hk b o (fun hm => ?_) (Heap.get?_push_of_some _ e)
    rcases List.mem_cons.mp hm with e1 | hm
    · exact absurd (e1 ▸ Heap.lt_size e) (Nat.lt_irrefl _)
    · cases hm
theorem max_rawT {prog : Program} {w : World} {A : Around} {E : Value → Shared → Prop} {s : Shared} {l : Addr} {its : List Value} {ns : List Int} {Q : Value → Shared → Prop} (hh : A.handled = none) (hl : s.heap.IsTuple l its.toArray) (hi : IntsAre its ns) (hne : 0 < ns.length)
    (h : ∀ h' tk M t', (∀ b o, s.heap.get? b = some o → h'.get? b = some o) → M ∈ ns → (∀ a, a ∈ ns → a ≤ M) → Q (.int M t') { s with heap := h', toks := tk }) : wpAny (model prog w) A (call (.builtin "max") [.ref l]) Q E s := by
  obtain ⟨xs, e⟩ := hi.allInts.items
  have hn : numsOf (intItems xs).toList = ns := by rw [← e]; exact hi.numsOf
  rw [nums_intItems] at hn
  subst hn
  rw [e] at hl
  have hsz : 0 < xs.size := by simpa using hne
  refine max_intTuple hh hl hsz fun v h' tk hv hk => ?_
  obtain ⟨t, rfl⟩ := intItems_at hv
  obtain ⟨h1, h2⟩ := argBest_gt (numAt xs) (xs.size - 1)
  refine h h' tk _ t hk ?_ fun a ha => ?_
  · rw [numAt_eq]; exact PySem.getD_mem (by rw [List.length_map, Array.length_toList]; omega)
  · obtain ⟨j, hj, rfl⟩ := mem_getD ha
    rw [List.length_map, Array.length_toList] at hj
    rw [← numAt_eq]; exact h2 j (by omega)
def rMaxT (K : PySem.W.Frag) : List V → Hp → VK → Prop := fun vs H Q => ∃ (a : Addr) (ns : List Int), vs = [V.ref a] ∧ SqT K H a (ns.map V.int) ∧ 0 < ns.length ∧ ∀ m, m ∈ ns → (∀ y, y ∈ ns → y ≤ m) → Q (.int m) H
theorem maxTK {X : Cx} {K : PySem.W.Frag} (hK : X.K = K) (hc : X.calm = true) : CallR X (.builtin "max") (rMaxT K) := by
  subst hK
  intro pins s σ H vs us Q I r h
  obtain ⟨a, ns, rfl, hs, hne, q⟩ := h
  obtain ⟨its, rv, hl, _⟩ := I.tuple hs
  rw [Vals.ref1 r]
  exact max_rawT (I.ok.hd hc) hl rv.ints hne fun h' tk m t' hk h1 h2 => ⟨.int _, H, I.kept hk, ⟨_, rfl⟩, q m h1 h2⟩
end KR
/-! ### days: ladles hour by hour, what each place has taken -/
namespace KR
open PySem PySem.Spec PyProof.Rows L2
theorem minLK {X : Cx} {K : PySem.W.Frag} (hK : X.K = K) (hc : X.calm = true) : CallR X (.builtin "min") (rMin K) := hK ▸ cr_min hc
theorem maxLK {X : Cx} {K : PySem.W.Frag} (hK : X.K = K) (hc : X.calm = true) : CallR X (.builtin "max") (rMax K) := hK ▸ cr_max hc
theorem nuMin3_int (i j k : Int) : nuMin3 (.int i) (.int j) (.int k) = some (.int (min (min i j) k)) := by
  have two : ∀ a b : Int, nuMin2 (.int a) (.int b) = some (.int (min a b)) := fun a b => by
    show some (if decide (b < a) = true then V.int b else V.int a) = _
    by_cases h : b < a
    · rw [decide_eq_true h, if_pos rfl, Int.min_def, if_neg (by omega)]
    · rw [decide_eq_false h, if_neg Bool.false_ne_true, Int.min_def, if_pos (by omega)]
  show (nuMin2 (.int i) (.int j)).bind (fun m => nuMin2 m (.int k)) = _
  rw [two i j]
  exact two _ k
/-! the sum of a list or a tuple of numbers; a part of a list or a tuple -/
theorem sum_intTuple {prog : Program} {w : World} {A : Around} {E : Value → Shared → Prop} {s : Shared} {l : Addr} {xs : Array (Int × Tok)} {Q : Value → Shared → Prop} (hh : A.handled = none) (hl : s.heap.IsTuple l (intItems xs))
    (h : ∀ h' tk t', (∀ b o, s.heap.get? b = some o → h'.get? b = some o) → Q (.int (preSum (numAt xs) xs.size) t') { s with heap := h', toks := tk }) :
    wpAny (model prog w) A (call (.builtin "sum") [.ref l]) Q E s := by
  have hlt : l < s.heap.objs.size := by obtain ⟨_, e, _⟩ := id hl; exact Heap.lt_size e
  refine call_sum_walkG (wpAny_pyIter_tuple hl ?_)
  refine ⟨_, [_, l], [_], _, _, _, numAt xs, rfl, Walks.tuple (A := A.in1) hh s.heap.objs.size l (Nat.ne_of_lt hlt) (intItems xs), ⟨⟨_, Heap.get?_push_size _ rfl, rfl, rfl⟩, hl.push _⟩, fun c hc => ?_, (fun _ _ => intItems_at), fun h' tk t' hk => ?_⟩
  · show c < (s.heap.push _).objs.size
    rw [Heap.size_push]
    rcases List.mem_cons.mp hc with rfl | hc
    · exact Nat.lt_succ_self _
    · rcases List.mem_cons.mp hc with rfl | hc
      · exact Nat.lt_succ_of_lt hlt
      · cases hc
  · have := h h' tk t' fun b o e => hk b o (fun hm => by
      rcases List.mem_cons.mp hm with e1 | hm
      · exact absurd (e1 ▸ Heap.lt_size e) (Nat.lt_irrefl _)
      · cases hm) (Heap.get?_push_of_some _ e)
    simpa [intItems] using this
theorem sum_rawT {prog : Program} {w : World} {A : Around} {E : Value → Shared → Prop} {s : Shared} {l : Addr} {its : List Value} {ns : List Int} {Q : Value → Shared → Prop} (hh : A.handled = none) (hl : s.heap.IsTuple l its.toArray) (hi : IntsAre its ns)
    (h : ∀ h' tk t', (∀ b o, s.heap.get? b = some o → h'.get? b = some o) → Q (.int ns.sum t') { s with heap := h', toks := tk }) : wpAny (model prog w) A (call (.builtin "sum") [.ref l]) Q E s := by
  obtain ⟨xs, e⟩ := hi.allInts.items
  have hn : numsOf (intItems xs).toList = ns := by rw [← e]; exact hi.numsOf
  rw [nums_intItems] at hn
  rw [e] at hl
  refine sum_intTuple hh hl fun h' tk t' hk => ?_
  have := h h' tk t' hk
  rw [preSum_eq, List.take_of_length_le (by simp), hn]; exact this
def rSumB (K : PySem.W.Frag) : List V → Hp → VK → Prop := fun vs H Q => ∃ (a : Addr) (ns : List Int) (p : Bool), vs = [V.ref a] ∧ SqB K H a (ns.map V.int) p ∧ Q (.int ns.sum) H
theorem sumBK {X : Cx} {K : PySem.W.Frag} (hK : X.K = K) (hc : X.calm = true) : CallR X (.builtin "sum") (rSumB K) := by
  subst hK
  intro pins s σ H vs us Q I r h
  obtain ⟨a, ns, p, rfl, hs, q⟩ := h
  cases p with
  | true => exact cr_sum hc pins s σ H _ us Q I r ⟨a, ns, rfl, hs, q⟩
  | false =>
    obtain ⟨its, rv, hl, _⟩ := I.tuple hs
    rw [Vals.ref1 r]
    exact sum_rawT (I.ok.hd hc) hl rv.ints fun h' tk t' hk => ⟨.int _, H, I.kept hk, ⟨_, rfl⟩, q⟩
def rSlB (K : PySem.W.Frag) : V → Option Int → Option Int → Hp → VK → Prop := fun x lo hi H Q => ∃ (a : Addr) (xs : List V) (p : Bool), x = .ref a ∧ SqB K H a xs p ∧ ∀ (c : Addr) (H' : Hp), Same H H' → SqB K H' c (cutV xs lo hi) p → Q (.ref c) H'
theorem cut_whole {xs : List V} {lo hi : Option Int} (h : HT.sIx xs.length 0 lo = 0 ∧ HT.sIx xs.length xs.length hi = xs.length) : cutV xs lo hi = xs := by
  unfold cutV
  rw [h.1, h.2, List.drop_zero, Nat.sub_zero, List.take_length]
theorem slBK {X : Cx} {K : PySem.W.Frag} (hK : X.K = K) : SlR X (rSlB K) := by
  subst hK
  intro pins s σ H x v vl vu lo hi sl Q I rx hs pl pu h
  obtain ⟨a, xs, p, rfl, hx, q⟩ := h
  cases p with
  | true => exact sl_list pins s σ H _ v vl vu lo hi sl Q I rx hs pl pu ⟨a, xs, rfl, hx, fun c hc => q c _ (same_new hc) (SqL.of upd_same)⟩
  | false =>
    refine sl_tupA pins s σ H _ v vl vu lo hi sl Q I rx hs pl pu ⟨a, xs, rfl, hx, fun w => ?_, fun _ c hc => q c _ (same_new hc) (SqT.of upd_same)⟩
    refine q a H (.refl _) ?_
    rw [cut_whole w]
    exact hx
theorem cut_to' {xs : List V} {n : Nat} (h : n ≤ xs.length) : cutV xs none (some (n : Int)) = xs.take n := by
  unfold cutV
  rw [HT.sIx_none, HT.sIx_nat, Nat.min_eq_left h, Nat.sub_zero, List.drop_zero]
theorem same_none' {H H' : Hp} {a : Addr} (s : Same H H') (n : H' a = none) : H a = none := by
  cases e : H a with
  | none => rfl
  | some o =>
    have k := s _ _ e
    rw [n] at k
    cases k
theorem fr_new' {p c : Addr} {H H' : Hp} (F : Fr p H H') (n : H' c = none) (ne : c ≠ p) : H c = none := by
  cases e : H c with
  | none => rfl
  | some o =>
    have k := F _ _ ne e
    rw [n] at k
    cases k
/-! what a day tells -/
structure Dy where
  cs : List Int
  ks : List (Int × List Int)
  ss : List Int
structure DyOk (D : Dy) : Prop where
  h1 : 1 ≤ D.cs.length
  h2 : D.cs.length ≤ 48
  k1 : 1 ≤ D.ks.length
  k2 : D.ks.length ≤ 8
  ts : ∀ k ∈ D.ks, k.2.length = D.cs.length
  sl : D.ss.length = D.cs.length
def csum (D : Dy) (t : Nat) : Int := (D.cs.take t).sum
def kt (D : Dy) (p : Nat) : Int × List Int := D.ks.getD p (0, [])
def tkQ (D : Dy) (t : Nat) (prev : Nat → Int) : Nat → Int
  | 0 => min (prev (D.ks.length - 1)) (prev D.ks.length + D.ss.getD t 0)
  | q + 1 => min (min (if D.ks.length - (q + 1) = 0 then csum D (t + 1) else prev (D.ks.length - (q + 1) - 1)) (prev (D.ks.length - (q + 1)) + (kt D (D.ks.length - (q + 1))).2.getD t 0)) (tkQ D t prev q + (kt D (D.ks.length - (q + 1))).1)
/-- what a place has taken by so many hours -/
def tk (D : Dy) : Nat → Nat → Int
  | 0, _ => 0
  | t + 1, p => tkQ D t (tk D t) (D.ks.length - p)
theorem tk_zero (D : Dy) (p : Nat) : tk D 0 p = 0 := rfl
theorem tk_last (D : Dy) (t : Nat) : tk D (t + 1) D.ks.length = min (tk D t (D.ks.length - 1)) (tk D t D.ks.length + D.ss.getD t 0) := by
  show tkQ D t (tk D t) (D.ks.length - D.ks.length) = _
  rw [Nat.sub_self] <;> rfl
theorem tk_at {D : Dy} {t p : Nat} (h : p < D.ks.length) : tk D (t + 1) p = min (min (if p = 0 then csum D (t + 1) else tk D t (p - 1)) (tk D t p + (kt D p).2.getD t 0)) (tk D (t + 1) (p + 1) + (kt D p).1) := by
  show tkQ D t (tk D t) (D.ks.length - p) = min (min _ _) (tkQ D t (tk D t) (D.ks.length - (p + 1)) + _)
  obtain ⟨q, e⟩ : ∃ q, D.ks.length - p = q + 1 := ⟨D.ks.length - p - 1, by omega⟩
  have e1 : D.ks.length - (q + 1) = p := by omega
  have e2 : D.ks.length - (p + 1) = q := by omega
  rw [e, e2]
  show min (min (if D.ks.length - (q + 1) = 0 then _ else tk D t (D.ks.length - (q + 1) - 1)) (tk D t (D.ks.length - (q + 1)) + (kt D (D.ks.length - (q + 1))).2.getD t 0)) (tkQ D t (tk D t) q + (kt D (D.ks.length - (q + 1))).1) = _
  rw [e1]
/-- what each hour takes at a place -/
def rowI (D : Dy) (p : Nat) : List Int := (List.range D.cs.length).map fun t => tk D (t + 1) p - tk D t p
theorem row_len (D : Dy) (p : Nat) : (rowI D p).length = D.cs.length := by
  unfold rowI
  rw [List.length_map, List.length_range]
theorem row_get {D : Dy} {p t : Nat} (h : t < D.cs.length) : (rowI D p)[t]? = some (tk D (t + 1) p - tk D t p) := by
  unfold rowI
  rw [List.getElem?_map, List.getElem?_range h] <;> rfl
theorem row_sum (D : Dy) (p : Nat) : ∀ t, t ≤ D.cs.length → ((rowI D p).take t).sum = tk D t p := fun t => by
  induction t with
  | zero => intro _; rw [List.take_zero, tk_zero] <;> rfl
  | succ t ih =>
    intro h
    rw [take_one (row_get (by omega)), List.sum_append, ih (by omega), List.sum_cons, List.sum_nil]
    omega
/-! where a day stands -/
def IsB' (K : PySem.W.Frag) (H : Hp) (p a : Addr) (ns : List Int) (b : Bool) : Prop := SqB K H a (ns.map V.int) b ∧ a ≠ p
structure KtAt (K : PySem.W.Frag) (H : Hp) (p a : Addr) (k : Int × List Int) : Prop where
  ex : ∃ t b, SqT K H a [.int k.1, .ref t] ∧ IsB' K H p t k.2 b
structure DyP where
  c : Addr
  k : Addr
  s : Addr
  pc : Bool
  pk : Bool
  ps : Bool
  as : List Addr
structure DayAt (K : PySem.W.Frag) (H : Hp) (p a : Addr) (x : DyP) (D : Dy) : Prop where
  at_ : SqT K H a [.ref x.c, .ref x.k, .ref x.s]
  cs : IsB' K H p x.c D.cs x.pc
  ks : SqB K H x.k (x.as.map V.ref) x.pk
  kp : x.k ≠ p
  ss : IsB' K H p x.s D.ss x.ps
  len : x.as.length = D.ks.length
  kt : ∀ (j : Nat) (a : Addr) (k : Int × List Int), x.as[j]? = some a → D.ks[j]? = some k → KtAt K H p a k
theorem IsB'.same {K : PySem.W.Frag} {H H' : Hp} {p a : Addr} {ns : List Int} {b : Bool} (h : IsB' K H p a ns b) (s : Same H H') : IsB' K H' p a ns b := ⟨h.1.same s, h.2⟩
theorem SqB.fr {K : PySem.W.Frag} {H H' : Hp} {p a : Addr} {xs : List V} {b : Bool} {n : Nat} (h : SqB K H a xs b) (ne : a ≠ p) (B : BoxAt H p n) (f : Fr p H H') : SqB K H' a xs b := by
  cases b with
  | true =>
    rcases h with (h | ⟨o, h⟩) | h
    · exact .inl (.inl (f _ _ ne h))
    · exact .inl (.inr ⟨o, f _ _ ne h⟩)
    · exact .inr h
  | false => exact sqT_fr h B f
theorem IsB'.fr {K : PySem.W.Frag} {H H' : Hp} {p a : Addr} {ns : List Int} {b : Bool} {n : Nat} (h : IsB' K H p a ns b) (B : BoxAt H p n) (f : Fr p H H') : IsB' K H' p a ns b := ⟨SqB.fr h.1 h.2 B f, h.2⟩
theorem KtAt.same {K : PySem.W.Frag} {H H' : Hp} {p a : Addr} {k : Int × List Int} (h : KtAt K H p a k) (s : Same H H') : KtAt K H' p a k := by
  obtain ⟨t, b, h1, h2⟩ := h.ex
  exact ⟨t, b, Same.tup s h1, h2.same s⟩
theorem KtAt.fr {K : PySem.W.Frag} {H H' : Hp} {p a : Addr} {k : Int × List Int} {n : Nat} (h : KtAt K H p a k) (B : BoxAt H p n) (f : Fr p H H') : KtAt K H' p a k := by
  obtain ⟨t, b, h1, h2⟩ := h.ex
  exact ⟨t, b, sqT_fr h1 B f, h2.fr B f⟩
theorem DayAt.same {K : PySem.W.Frag} {H H' : Hp} {p a : Addr} {x : DyP} {D : Dy} (h : DayAt K H p a x D) (s : Same H H') : DayAt K H' p a x D :=
  ⟨Same.tup s h.at_, h.cs.same s, h.ks.same s, h.kp, h.ss.same s, h.len, fun j a k e1 e2 => (h.kt j a k e1 e2).same s⟩
theorem DayAt.fr {K : PySem.W.Frag} {H H' : Hp} {p a : Addr} {x : DyP} {D : Dy} {n : Nat} (h : DayAt K H p a x D) (B : BoxAt H p n) (f : Fr p H H') : DayAt K H' p a x D :=
  ⟨sqT_fr h.at_ B f, h.cs.fr B f, SqB.fr h.ks h.kp B f, h.kp, h.ss.fr B f, h.len, fun j a k e1 e2 => (h.kt j a k e1 e2).fr B f⟩
theorem DayAt.pot {K : PySem.W.Frag} {H : Hp} {p a : Addr} {x : DyP} {D : Dy} (h : DayAt K H p a x D) {j : Nat} (lt : j < D.ks.length) : ∃ ka t b, (x.as.map V.ref)[j]? = some (.ref ka) ∧ SqT K H ka [.int (KR.kt D j).1, .ref t] ∧ IsB' K H p t (KR.kt D j).2 b := by
  have e1 : x.as[j]? = some (x.as[j]'(by rw [h.len]; exact lt)) := List.getElem?_eq_getElem _
  have e2 : D.ks[j]? = some D.ks[j] := List.getElem?_eq_getElem lt
  obtain ⟨t, b, h1, h2⟩ := (h.kt j _ _ e1 e2).ex
  have e3 : KR.kt D j = D.ks[j] := by
    unfold KR.kt
    rw [List.getD_eq_getElem?_getD, e2] <;> rfl
  rw [e3]
  exact ⟨_, t, b, by rw [List.getElem?_map, e1] <;> rfl, h1, h2⟩
theorem ints_get {ns : List Int} {t : Nat} (h : t < ns.length) : (ns.map V.int)[t]? = some (.int (ns.getD t 0)) := by
  rw [List.getElem?_map, List.getD_eq_getElem?_getD, List.getElem?_eq_getElem h] <;> rfl
theorem kt_len {D : Dy} (O : DyOk D) {p : Nat} (h : p < D.ks.length) : (kt D p).2.length = D.cs.length := by
  refine O.ts _ ?_
  unfold kt
  rw [List.getD_eq_getElem?_getD, List.getElem?_eq_getElem h]
  exact List.getElem_mem h
theorem lenV_b {K : PySem.W.Frag} {H : Hp} {a : Addr} {xs : List V} {p : Bool} (h : SqB K H a xs p) : LenV K (.ref a) H xs.length := by
  cases p with
  | true => exact .inl ⟨xs, h, rfl⟩
  | false => exact .inr ⟨xs, h, rfl⟩
theorem ix_b {K : PySem.W.Frag} {H : Hp} {a : Addr} {xs : List V} {p : Bool} {i : Nat} {j : Int} {v : V} {Q : VK} (h : SqB K H a xs p) (e : j = (i : Int)) (g : xs[i]? = some v) (q : Q v H) : rIx K (.ref a) (.int j) H Q := by
  subst e
  cases p with
  | true => exact .inl ⟨a, xs, _, v, rfl, rfl, h, at_of rfl g, q⟩
  | false => exact .inr (.inl ⟨a, xs, _, v, rfl, rfl, h, at_of rfl g, q⟩)
/-! bounds -/
structure Bd where
  word : Str
  lead : Option (Int × Int)
  more : Int
def leadV (H : Hp) (l : V) : Option (Int × Int) → Prop
  | none => l = .non
  | some (p, h) => ∃ q, l = .ref q ∧ H q = some (.tup [.int p, .int h])
def BdAt (H : Hp) (kv : Key × V) (b : Bd) : Prop := kv.1 = .inr b.word ∧ ∃ t l, kv.2 = .ref t ∧ H t = some (.tup [l, .int b.more]) ∧ leadV H l b.lead
theorem leadV.same {H H' : Hp} {l : V} {o : Option (Int × Int)} (h : leadV H l o) (s : Same H H') : leadV H' l o := by
  cases o with
  | none => exact h
  | some x =>
    obtain ⟨q, e, h1⟩ := h
    exact ⟨q, e, s _ _ h1⟩
theorem BdAt.same {H H' : Hp} {kv : Key × V} {b : Bd} (h : BdAt H kv b) (s : Same H H') : BdAt H' kv b := by
  obtain ⟨h1, t, l, h2, h3, h4⟩ := h
  exact ⟨h1, t, l, h2, s _ _ h3, h4.same s⟩
/-- what bounds a place at an hour, that one behind so many hours -/
def firstB (D : Dy) (p t : Nat) : Bd := if p = 0 then ⟨"comes", none, csum D (t + 1)⟩ else ⟨"ahead", some ((p : Int) - 1, (t : Int) - 1), 0⟩
def bnds (D : Dy) (p : Nat) : Nat → List Bd
  | 0 => [⟨"begin", none, 0⟩]
  | t + 1 => if p = D.ks.length then [firstB D p t, ⟨"takes", some ((p : Int), (t : Int) - 1), D.ss.getD t 0⟩]
    else [firstB D p t, ⟨"takes", some ((p : Int), (t : Int) - 1), (kt D p).2.getD t 0⟩, ⟨"room", some ((p : Int) + 1, (t : Int)), (kt D p).1⟩]
def AllBd (H : Hp) (kvs : List (Key × V)) (bs : List Bd) : Prop := Paired (BdAt H) kvs bs
theorem AllBd.same {H H' : Hp} {kvs : List (Key × V)} {bs : List Bd} (h : AllBd H kvs bs) (s : Same H H') : AllBd H' kvs bs := by
  induction h with
  | nil => exact .nil
  | cons a _ ih => exact .cons (a.same s) ih
theorem AllBd.get {H : Hp} : ∀ {kvs : List (Key × V)} {bs : List Bd}, AllBd H kvs bs → ∀ {i : Nat} {kv : Key × V}, kvs[i]? = some kv → ∃ b, bs[i]? = some b ∧ BdAt H kv b
  | [], _, _, i, _, e => by simp at e
  | _ :: _, _, .cons a h, 0, _, e => by cases e; exact ⟨_, rfl, a⟩
  | _ :: _, _, .cons _ h, i + 1, _, e => AllBd.get h (i := i) e
theorem AllBd.len {H : Hp} {kvs : List (Key × V)} {bs : List Bd} (h : AllBd H kvs bs) : kvs.length = bs.length := Paired.length h
/-- a place and an hour as a key -/
def kk (p t : Nat) : List Key := [.inl (p : Int), .inl ((t : Int) - 1)]
theorem kk_inj {p t p' t' : Nat} (h : kk p t = kk p' t') : p = p' ∧ t = t' := by
  unfold kk at h
  injection h with h1 h2
  injection h2 with h3 h4
  injection h1 with h1
  injection h3 with h3
  omega
/-- what is told of places and hours -/
def Told (D : Dy) (kvs : List (List Key × V)) (d : Nat → Nat → Prop) : Prop := ∀ p t, d p t → valV kvs (kk p t) = some (.int (tk D t p))
theorem Told.put {D : Dy} {kvs : List (List Key × V)} {d d' : Nat → Nat → Prop} (h : Told D kvs d) (p t : Nat) (hd : ∀ p' t', d' p' t' → d p' t' ∨ (p' = p ∧ t' = t)) : Told D (putK kvs (kk p t) (.int (tk D t p))) d' := fun p' t' h' => by
  rw [valV_put]
  by_cases c : kk p' t' = kk p t
  · rw [if_pos c]
    obtain ⟨e1, e2⟩ := kk_inj c
    rw [e1, e2]
  · rw [if_neg c]
    rcases hd p' t' h' with g | ⟨e1, e2⟩
    · exact h p' t' g
    · exact absurd (by rw [e1, e2]) c
/-- what a bound comes to -/
def valB (D : Dy) (b : Bd) : Int := match b.lead with
  | none => b.more
  | some (p, h) => tk D (h + 1).toNat p.toNat + b.more
theorem min_mem {ns : List Int} {m a : Int} (h : m ∈ ns) (le : ∀ y ∈ ns, m ≤ y) (ha : a ∈ ns) (la : ∀ y ∈ ns, a ≤ y) : m = a := Int.le_antisymm (le a ha) (la m h)
/-- the least that the bounds come to is what has been taken -/
theorem bnds_min {D : Dy} {p t : Nat} (k1 : 1 ≤ D.ks.length) (hp : p ≤ D.ks.length) : tk D t p ∈ (bnds D p t).map (valB D) ∧ ∀ y ∈ (bnds D p t).map (valB D), tk D t p ≤ y := by
  cases t with
  | zero =>
    show (0 : Int) ∈ [(0 : Int)] ∧ ∀ y ∈ [(0 : Int)], 0 ≤ y
    exact ⟨List.mem_cons_self, fun y hy => by rw [List.mem_singleton.mp hy]; decide⟩
  | succ t =>
    have e1 : valB D (firstB D p t) = if p = 0 then csum D (t + 1) else tk D t (p - 1) := by
      unfold firstB
      by_cases c : p = 0
      · rw [if_pos c, if_pos c] <;> rfl
      · rw [if_neg c, if_neg c]
        show tk D ((t : Int) - 1 + 1).toNat ((p : Int) - 1).toNat + 0 = _
        rw [show ((t : Int) - 1 + 1).toNat = t by omega, show ((p : Int) - 1).toNat = p - 1 by omega, Int.add_zero]
    have e2 : ∀ m, valB D ⟨"takes", some ((p : Int), (t : Int) - 1), m⟩ = tk D t p + m := fun m => by
      show tk D ((t : Int) - 1 + 1).toNat ((p : Int)).toNat + m = _
      rw [show ((t : Int) - 1 + 1).toNat = t by omega, Int.toNat_natCast]
    have e3 : ∀ m, valB D ⟨"room", some ((p : Int) + 1, (t : Int)), m⟩ = tk D (t + 1) (p + 1) + m := fun m => by
      show tk D ((t : Int) + 1).toNat ((p : Int) + 1).toNat + m = _
      rw [show ((t : Int) + 1).toNat = t + 1 by omega, show ((p : Int) + 1).toNat = p + 1 by omega]
    by_cases c : p = D.ks.length
    · have eb : bnds D p (t + 1) = [firstB D p t, ⟨"takes", some ((p : Int), (t : Int) - 1), D.ss.getD t 0⟩] := if_pos c
      rw [eb, List.map_cons, List.map_cons, List.map_nil, e1, e2]
      have et := tk_last D t
      rw [← c] at et
      rw [et, if_neg (show ¬ p = 0 by omega)]
      refine ⟨?_, fun y hy => ?_⟩
      · simp only [List.mem_cons, List.not_mem_nil, or_false]
        omega
      · simp only [List.mem_cons, List.not_mem_nil, or_false] at hy
        omega
    · have eb : bnds D p (t + 1) = [firstB D p t, ⟨"takes", some ((p : Int), (t : Int) - 1), (kt D p).2.getD t 0⟩, ⟨"room", some ((p : Int) + 1, (t : Int)), (kt D p).1⟩] := if_neg c
      have et := tk_at (D := D) (t := t) (p := p) (by omega)
      rw [eb, List.map_cons, List.map_cons, List.map_cons, List.map_nil, e1, e2, e3]
      generalize (if p = 0 then csum D (t + 1) else tk D t (p - 1)) = fb at *
      refine ⟨?_, fun y hy => ?_⟩
      · simp only [List.mem_cons, List.not_mem_nil, or_false]
        omega
      · simp only [List.mem_cons, List.not_mem_nil, or_false] at hy
        omega
theorem same_frb {H0 H1 H2 : Hp} {b : Addr} (s : Same H0 H1) (n : H0 b = none) (f : Fr b H1 H2) : Same H0 H2 := fun c o e => f c o (ne_of_none e n) (s c o e)
/-- the lists of ints in a row, one upon another -/
def RowsAt (H : Hp) (rs : List Addr) (f : Nat → List Int) : Prop := ∀ (j : Nat) (r : Addr), rs[j]? = some r → H r = some (.lst ((f j).map V.int))
theorem leadV.frb {H H' : Hp} {b : Addr} {kb : List (Key × V)} {l : V} {o : Option (Int × Int)} (h : leadV H l o) (hb : H b = some (.dK kb)) (F : Fr b H H') : leadV H' l o := by
  cases o with
  | none => exact h
  | some y =>
    obtain ⟨q, e, h1⟩ := h
    exact ⟨q, e, F _ _ (ne_of h1 hb (by intro z; cases z)) h1⟩
theorem bnds_lead {D : Dy} {p t : Nat} {b : Bd} {p' h' : Int} (hp : p ≤ D.ks.length) (m : b ∈ bnds D p t) (e : b.lead = some (p', h')) : ∃ pn tn : Nat, p' = (pn : Int) ∧ h' = (tn : Int) - 1 ∧ pn ≤ D.ks.length ∧ (tn < t ∨ (tn = t ∧ p < pn)) := by
  cases t with
  | zero =>
    have e1 : b = ⟨"begin", none, 0⟩ := List.mem_singleton.mp m
    rw [e1] at e
    cases e
  | succ t =>
    have f1 : b = firstB D p t → ∃ pn tn : Nat, p' = (pn : Int) ∧ h' = (tn : Int) - 1 ∧ pn ≤ D.ks.length ∧ (tn < t + 1 ∨ (tn = t + 1 ∧ p < pn)) := fun z => by
      rw [z] at e
      unfold firstB at e
      by_cases c : p = 0
      · rw [if_pos c] at e
        cases e
      · rw [if_neg c] at e
        obtain ⟨rfl, rfl⟩ := Prod.mk.inj (Option.some.inj e)
        exact ⟨p - 1, t, by omega, rfl, by omega, .inl (by omega)⟩
    have f2 : ∀ x, b = ⟨"takes", some ((p : Int), (t : Int) - 1), x⟩ → ∃ pn tn : Nat, p' = (pn : Int) ∧ h' = (tn : Int) - 1 ∧ pn ≤ D.ks.length ∧ (tn < t + 1 ∨ (tn = t + 1 ∧ p < pn)) := fun x z => by
      rw [z] at e
      obtain ⟨rfl, rfl⟩ := Prod.mk.inj (Option.some.inj e)
      exact ⟨p, t, rfl, rfl, hp, .inl (by omega)⟩
    by_cases c : p = D.ks.length
    · rw [show bnds D p (t + 1) = [firstB D p t, ⟨"takes", some ((p : Int), (t : Int) - 1), D.ss.getD t 0⟩] from if_pos c] at m
      rcases List.mem_cons.mp m with z | z
      · exact f1 z
      · exact f2 _ (List.mem_singleton.mp z)
    · rw [show bnds D p (t + 1) = [firstB D p t, ⟨"takes", some ((p : Int), (t : Int) - 1), (kt D p).2.getD t 0⟩, ⟨"room", some ((p : Int) + 1, (t : Int)), (kt D p).1⟩] from if_neg c] at m
      rcases List.mem_cons.mp m with z | z
      · exact f1 z
      · rcases List.mem_cons.mp z with z | z
        · exact f2 _ z
        · rw [List.mem_singleton.mp z] at e
          obtain ⟨rfl, rfl⟩ := Prod.mk.inj (Option.some.inj e)
          exact ⟨p + 1, t + 1, by omega, by omega, by omega, .inr ⟨rfl, by omega⟩⟩
theorem bnds_len (D : Dy) (p t : Nat) : 0 < (bnds D p t).length := by
  cases t with
  | zero => exact Nat.zero_lt_succ _
  | succ t =>
    show 0 < (if p = D.ks.length then _ else _ : List Bd).length
    split <;> exact Nat.zero_lt_succ _
theorem bnds_len3 (D : Dy) (p t : Nat) : (bnds D p t).length ≤ 3 := by
  cases t with
  | zero => show 1 ≤ 3; decide
  | succ t =>
    show (if p = D.ks.length then _ else _ : List Bd).length ≤ 3
    split
    · show 2 ≤ 3
      decide
    · show 3 ≤ 3
      decide
/-- the first hour by which so many are struck -/
def FirstV (D : Dy) (m : Int) (v : V) : Prop := (∃ t : Nat, t < D.cs.length ∧ (∀ j, j < t → tk D (j + 1) D.ks.length < m) ∧ m ≤ tk D (t + 1) D.ks.length ∧ v = .int (t : Int)) ∨ ((∀ j, j < D.cs.length → tk D (j + 1) D.ks.length < m) ∧ v = .non)
/-- ladles that a day may have -/
def Ldl (ns : List Int) : Prop := ∀ z ∈ ns, 0 ≤ z ∧ z ≤ 1000000
structure DyNn (D : Dy) : Prop where
  cs : Ldl D.cs
  ks : ∀ k ∈ D.ks, 1 ≤ k.1 ∧ k.1 ≤ 1000000 ∧ Ldl k.2
  ss : Ldl D.ss
/-- kettles beside their lists -/
def KtF (K : PySem.W.Frag) (H : Hp) (p f : Addr) (a : Addr) (k : Int × List Int) : Prop := ∃ t, SqT K H a [.int k.1, .ref t] ∧ H t = some (.lst (k.2.map V.int)) ∧ t ≠ p ∧ t ≠ f
def PotsF (K : PySem.W.Frag) (H : Hp) (p f : Addr) (as : List Addr) (ks : List (Int × List Int)) : Prop := Paired (KtF K H p f) as ks
theorem KtF.same {K : PySem.W.Frag} {H H' : Hp} {p f a : Addr} {k : Int × List Int} (h : KtF K H p f a k) (s : Same H H') : KtF K H' p f a k := by
  obtain ⟨t, h1, h2, h3, h4⟩ := h
  exact ⟨t, Same.tup s h1, s _ _ h2, h3, h4⟩
theorem KtF.fr {K : PySem.W.Frag} {H H' : Hp} {p f a : Addr} {k : Int × List Int} {n : Nat} (h : KtF K H p f a k) (B : BoxAt H p n) (F : Fr p H H') : KtF K H' p f a k := by
  obtain ⟨t, h1, h2, h3, h4⟩ := h
  exact ⟨t, sqT_fr h1 B F, F _ _ h3 h2, h3, h4⟩
theorem KtF.put {K : PySem.W.Frag} {H : Hp} {p f a : Addr} {k : Int × List Int} {xs ys : List V} (h : KtF K H p f a k) (hf : H f = some (.lst xs)) : KtF K (upd H f (.lst ys)) p f a k := by
  obtain ⟨t, h1, h2, h3, h4⟩ := h
  exact ⟨t, sqT_frL h1 hf fr_upd, by rw [upd_ne h4]; exact h2, h3, h4⟩
theorem KtF.to {K : PySem.W.Frag} {H : Hp} {p f g a : Addr} {k : Int × List Int} (h : KtF K H p f a k) (n : H g = none) : KtF K H p g a k := by
  obtain ⟨t, h1, h2, h3, h4⟩ := h
  exact ⟨t, h1, h2, h3, ne_of_none h2 n⟩
theorem PotsF.map {K : PySem.W.Frag} {H H' : Hp} {p f g : Addr} {as : List Addr} {ks : List (Int × List Int)} (h : PotsF K H p f as ks) (m : ∀ a k, KtF K H p f a k → KtF K H' p g a k) : PotsF K H' p g as ks := by
  induction h with
  | nil => exact .nil
  | cons a _ ih => exact .cons (m _ _ a) ih
theorem PotsF.snoc {K : PySem.W.Frag} {H : Hp} {p f : Addr} {as : List Addr} {ks : List (Int × List Int)} {a : Addr} {k : Int × List Int} (h : PotsF K H p f as ks) (ha : KtF K H p f a k) : PotsF K H p f (as ++ [a]) (ks ++ [k]) := by
  induction h with
  | nil => exact .cons ha .nil
  | cons b _ ih => exact .cons b ih
theorem PotsF.get {K : PySem.W.Frag} {H : Hp} {p f : Addr} : ∀ {as : List Addr} {ks : List (Int × List Int)}, PotsF K H p f as ks → ∀ {j : Nat} {a : Addr}, as[j]? = some a → ∃ k, ks[j]? = some k ∧ KtF K H p f a k
  | [], _, _, j, _, e => by simp at e
  | _ :: _, _, .cons h _, 0, _, e => by cases e; exact ⟨_, rfl, h⟩
  | _ :: _, _, .cons _ h, j + 1, _, e => PotsF.get h (j := j) e
theorem PotsF.at_ {K : PySem.W.Frag} {H : Hp} {p f : Addr} {as : List Addr} {ks : List (Int × List Int)} (h : PotsF K H p f as ks) : ∀ (j : Nat) (a : Addr) (k : Int × List Int), as[j]? = some a → ks[j]? = some k → KtAt K H p a k := fun j a k e1 e2 => by
  obtain ⟨k', e3, t, h1, h2, h3, _⟩ := h.get e1
  rw [e2] at e3
  obtain rfl := Option.some.inj e3
  exact ⟨t, true, h1, SqL.of h2, h3⟩
theorem rep_ints (k : Nat) (z : Int) : (List.replicate ((k : Int)).toNat [V.int z]).flatten = (List.replicate k z).map V.int := by
  rw [Int.toNat_natCast, List.map_replicate]
  induction k with
  | zero => rfl
  | succ k ih => rw [List.replicate_succ, List.flatten_cons, ih, List.replicate_succ] <;> rfl
/-! tuple(x) of a list or a tuple -/
def rTupJ (K : PySem.W.Frag) : List V → Hp → VK → Prop := fun xs H Q => ∃ p ys, xs = [.ref p] ∧ ((SqL K H p ys ∧ ∀ l H', Same H H' → H l = none → H' l = some (.tup ys) → Q (.ref l) H') ∨ (SqT K H p ys ∧ Q (.ref p) H))
theorem tupJ {X : Cx} {K : PySem.W.Frag} (h : X.K = K) : CallR X (.type "tuple") (rTupJ K) := fun pins s σ H xs us Q I r ⟨p, ys, e, q⟩ =>
  call_tuple_of pins s σ H xs us Q I r ⟨p, ys, e, h ▸ q.imp (fun z => ⟨z.1, fun l hl => z.2 l _ (same_new hl) hl upd_same⟩) id⟩
/-! rows of numbers as data -/
theorem eqv_nums : ∀ (a b : List Int), PyData.eqvAll (a.map PyData.int) (b.map PyData.int) = decide (a = b)
  | [], [] => rfl
  | [], _ :: _ => rfl
  | _ :: _, [] => rfl
  | x :: a, y :: b => by
    show (PyData.eqv (.int x) (.int y) && PyData.eqvAll (a.map PyData.int) (b.map PyData.int)) = _
    rw [eqv_nums a b]
    show (decide (x = y) && _) = _
    by_cases c : x = y
    · subst c
      by_cases d : a = b
      · subst d
        simp
      · simp [d]
    · simp [c]
def din (ns : List Int) : PyData := .list (ns.map PyData.int)
theorem din_eqv (a b : List Int) : PyData.eqv (din a) (din b) = decide (a = b) := eqv_nums a b
theorem nums_dps {K : PySem.W.Frag} {H : Hp} : ∀ (ns : List Int), DpAll K H (ns.map V.int) (ns.map PyData.int)
  | [] => .nil
  | _ :: r => .cons (.int _) (nums_dps r)
theorem din_at {K : PySem.W.Frag} {H : Hp} {a : Addr} {ns : List Int} (h : H a = some (.lst (ns.map V.int))) : Dp K H (.ref a) (din ns) := .lst (SqL.of h) (nums_dps ns)
theorem nums_flat : ∀ (ns : List Int), PyData.canLayAll0 (ns.map PyData.int) = true ∧ PyData.depthAll (ns.map PyData.int) = 0
  | [] => ⟨rfl, rfl⟩
  | z :: r => by
    obtain ⟨h1, h2⟩ := nums_flat r
    refine ⟨?_, ?_⟩
    · show (PyData.canLay0 (.int z) && PyData.canLayAll0 (r.map PyData.int)) = true
      rw [h1] <;> rfl
    · show max (PyData.depth (.int z)) (PyData.depthAll (r.map PyData.int)) = 0
      rw [h2] <;> rfl
theorem din_shaped (ns : List Int) : SeqAt.shaped (din ns) = true := by
  obtain ⟨h1, h2⟩ := nums_flat ns
  show (PyData.canLayAll0 (ns.map PyData.int) && decide (PyData.depthAll (ns.map PyData.int) + 1 ≤ 64)) = true
  rw [h1, h2] <;> rfl
/-! the hours by which so many are struck -/
theorem filter_head {P : Nat → Bool} : ∀ (n t : Nat), t < n → P t = true → (∀ j, j < t → P j = false) → ∃ r, (List.range n).filter P = t :: r := fun n t lt pt no => by
  induction n with
  | zero => omega
  | succ n ih =>
    rw [List.range_succ, List.filter_append]
    by_cases c : t < n
    · obtain ⟨r, e⟩ := ih c
      rw [e]
      exact ⟨_, rfl⟩
    · have e : t = n := by omega
      subst e
      have e0 : (List.range t).filter P = [] := List.filter_eq_nil_iff.mpr fun j hj => by
        rw [no j (List.mem_range.mp hj)]
        exact Bool.false_ne_true
      rw [e0, List.nil_append, List.filter_cons, if_pos pt]
      exact ⟨_, rfl⟩
def hoursBy (D : Dy) (m : Int) : List Nat := (List.range D.cs.length).filter fun t => decide (m ≤ tk D (t + 1) D.ks.length)
theorem FirstV.hours {D : Dy} {m : Int} {v : V} (h : FirstV D m v) : (hoursBy D m = [] ∧ v = .non) ∨ ∃ t r, hoursBy D m = t :: r ∧ v = .int ((t : Nat) : Int) := by
  rcases h with ⟨t, lt, below, ge, rfl⟩ | ⟨below, rfl⟩
  · obtain ⟨r, e⟩ := filter_head (P := fun t => decide (m ≤ tk D (t + 1) D.ks.length)) D.cs.length t lt (decide_eq_true ge) fun j hj => decide_eq_false (by have := below j hj; omega)
    exact .inr ⟨t, r, e, rfl⟩
  · refine .inl ⟨List.filter_eq_nil_iff.mpr fun j hj => ?_, rfl⟩
    have := below j (List.mem_range.mp hj)
    rw [decide_eq_false (by omega)]
    exact Bool.false_ne_true
/-- what has been taken is neither below nought nor great -/
theorem csum_nn {D : Dy} (N : DyNn D) : ∀ t, 0 ≤ csum D t := fun t => by
  unfold csum
  have all : ∀ l : List Int, (∀ z ∈ l, 0 ≤ z) → 0 ≤ l.sum := fun l => by
    induction l with
    | nil => exact fun _ => Int.le_refl _
    | cons a r ih =>
      intro h
      have h1 := h a List.mem_cons_self
      have h2 := ih fun z hz => h z (List.mem_cons_of_mem _ hz)
      rw [List.sum_cons]
      omega
  exact all _ fun z hz => (N.cs z (List.mem_of_mem_take hz)).1
theorem ldl_at {ns : List Int} (h : Ldl ns) (t : Nat) : 0 ≤ ns.getD t 0 ∧ ns.getD t 0 ≤ 1000000 := by
  rw [List.getD_eq_getElem?_getD]
  cases e : ns[t]? with
  | none => exact ⟨by decide, by decide⟩
  | some z => exact h z (List.mem_of_getElem? e)
theorem kt_nn {D : Dy} (N : DyNn D) (p : Nat) : 0 ≤ (kt D p).1 ∧ Ldl (kt D p).2 := by
  unfold kt
  rw [List.getD_eq_getElem?_getD]
  cases e : D.ks[p]? with
  | none => exact ⟨by decide, fun z hz => absurd hz List.not_mem_nil⟩
  | some k =>
    have h := N.ks k (List.mem_of_getElem? e)
    exact ⟨by show 0 ≤ k.1; omega, h.2.2⟩
theorem tk_nn {D : Dy} (N : DyNn D) : ∀ t q p, p + q = D.ks.length → 0 ≤ tk D t p ∧ tk D t p ≤ 1000000 * t := fun t => by
  induction t with
  | zero =>
    intro q p _
    rw [tk_zero]
    omega
  | succ t ih =>
    intro q
    induction q with
    | zero =>
      intro p hp
      have e : p = D.ks.length := by omega
      subst e
      rw [tk_last]
      have h1 := ih 1 (D.ks.length - 1)
      have h0 := ih 0 D.ks.length rfl
      have s := ldl_at N.ss t
      by_cases c : D.ks.length = 0
      · rw [c] at h0 ⊢
        have e : tk D t (0 - 1) = tk D t 0 := rfl
        omega
      · have := h1 (by omega)
        omega
    | succ q ihq =>
      intro p hp
      rw [tk_at (by omega)]
      have h0 := ih (q + 1) p hp
      have h1 := ihq (p + 1) (by omega)
      have kn := kt_nn N p
      have s := ldl_at kn.2 t
      have c0 := csum_nn N (t + 1)
      by_cases c : p = 0
      · rw [if_pos c]
        omega
      · rw [if_neg c]
        have h2 := ih (q + 2) (p - 1) (by omega)
        omega
/-- a part of a row of numbers -/
theorem cut_nums (ns : List Int) (lo hi : Option Int) : ∃ ms : List Int, cutV (ns.map V.int) lo hi = ms.map V.int ∧ (∀ z ∈ ms, z ∈ ns) ∧ ms.length ≤ ns.length := by
  unfold cutV
  refine ⟨(ns.drop _).take _, by rw [List.map_take, List.map_drop], fun z hz => List.mem_of_mem_drop (List.mem_of_mem_take hz), ?_⟩
  rw [List.length_take, List.length_drop]
  omega
theorem rg_nums (a b : Int) : ∃ ms : List Int, rgV a b = ms.map V.int ∧ ms.length = (b - a).toNat := by
  refine ⟨(List.range (b - a).toNat).map fun i => a + (i : Nat), ?_, by rw [List.length_map, List.length_range]⟩
  unfold rgV
  rw [List.map_map] <;> rfl
/-- a day of tuples stands beside a list that is written -/
theorem DayAt.frT {K : PySem.W.Frag} {H H' : Hp} {p a q : Addr} {c k s : Addr} {as : List Addr} {D : Dy} {xs : List V} (h : DayAt K H p a ⟨c, k, s, false, false, false, as⟩ D) (F : Fr q H H') (hq : H q = some (.lst xs)) (tt : ∀ (j : Nat) (b : Addr) (k : Int × List Int), as[j]? = some b → D.ks[j]? = some k → ∃ t, SqT K H b [.int k.1, .ref t] ∧ SqT K H t (k.2.map V.int) ∧ t ≠ p) : DayAt K H' p a ⟨c, k, s, false, false, false, as⟩ D :=
  ⟨sqT_frL h.at_ hq F, ⟨sqT_frL h.cs.1 hq F, h.cs.2⟩, sqT_frL h.ks hq F, h.kp, ⟨sqT_frL h.ss.1 hq F, h.ss.2⟩, h.len, fun j b k e1 e2 => by
    obtain ⟨t, a1, a2, a3⟩ := tt j b k e1 e2
    exact ⟨t, false, sqT_frL a1 hq F, sqT_frL a2 hq F, a3⟩⟩
theorem same_new_fr {H0 H1 H2 : Hp} {p : Addr} (s : Same H0 H1) (n : H0 p = none) (f : Fr p H1 H2) : Same H0 H2 := fun c o e => f c o (ne_of_none e n) (s c o e)
end KR
/-! ### a caught exception that is kept behind its suite -/
namespace KR
open PySem PySem.Spec PyProof.Rows L2
/-- an exception that was caught, at a: its class, its own dict -/
def ExK (cls : Value) (d : Option Addr) (a : Addr) : HO := .ext fun g => ∃ (ob : Obj) (fs : Array Value), g.get? a = some ob ∧ Zc cls d ob ∧ ob.data = .fields fs
theorem exK_ok {P : Program} {w : World} {H : Hp} {g : Heap} {a : Addr} {cls : Value} {d : Option Addr} {ob : Obj} {fs : Array Value} (e : g.get? a = some ob) (z : Zc cls d ob) (k : ob.data = .fields fs) : ObjOk P w H g a (ExK cls d a) :=
  ⟨⟨ob, fs, e, z, k⟩, ⟨ob, e⟩, fun _ _ ⟨o, v, q, r⟩ m => ⟨o, v, m o q, r⟩⟩
/-- on with the object told -/
def wKeep (K : PySem.W.Frag) (c : Value) (i : Nat) (ts : Addr → Value → Option Addr → TS) (Wo : WX) (D : Ends) : WX := fun cls d σ H =>
  ∃ hit, PySem.W.exmOne K cls c = some hit ∧
    (hit = true → ∀ a, H a = none → ts a cls d { D with nx := fun τ G => D.nx (τ.set i none) (upd G a (ExK cls d a)), bk := fun τ G => D.bk (τ.set i none) G, ct := fun τ G => D.ct (τ.set i none) G } (σ.set i (some (.ref a))) H) ∧
    (hit = false → Wo cls d σ H)
section
variable {X : Cx} {pins : List (Addr × Obj)} {σ : L2.St} {H : Hp} {s : Shared}
/-- an object that nobody tracks, new since the entry, is tracked from now on -/
theorem Inv.track {a : Addr} {o : HO} (I : Inv X pins σ H s) (na : H a = none) (old : a ∈ X.ex ∨ X.s_0.heap.get? a = none) (nL : a ≠ X.env.locals) (nC : ∀ z c, X.env.cells.lookup z = some c → c ≠ a)
    (nP : ∀ p ∈ X.pn ++ pins, p.1 ≠ a) (new : ObjOk X.prog X.w (upd H a o) s.heap a o) : Inv X pins σ (upd H a o) s := by
  refine ⟨I.ok, I.os, I.bare, ⟨I.base.keep, I.base.slot, ?_, I.base.there, ?_, ?_, ?_⟩, I.loc, I.cell, ?_, ?_, ?_, ?_, I.len⟩
  · intro b ob e1 e2 e3
    have ne : b ≠ a := fun z => by
      rw [z] at e1 e3
      rcases old with q | q
      · exact e3 q
      · rw [q] at e1
        cases e1
    rw [upd_ne ne]
    exact I.base.free b ob e1 e2 e3
  · intro b xs e
    have e' := I.base.tups b xs e
    rw [upd_ne (ne_of_none e' na)]
    exact e'
  · intro b ob u e
    have e' := I.base.frzs b ob u e
    rw [upd_ne (ne_of_none e' na)]
    exact e'
  · intro b ps e
    obtain ⟨more, e'⟩ := I.base.tbls b ps e
    refine ⟨more, ?_⟩
    rw [upd_ne (ne_of_none e' na)]
    exact e'
  · rw [upd_ne (Ne.symm nL)]
    exact I.free
  · intro z c e
    rw [upd_ne (nC z c e)]
    exact I.freeC z c e
  · intro p hp
    obtain ⟨h1, h2, h3, h4, h5⟩ := I.pin p hp
    refine ⟨h1, ?_, h3, h4, h5⟩
    rw [upd_ne (nP p hp)]
    exact h2
  · intro b u e
    by_cases z : b = a
    · subst z
      rw [upd_same] at e
      cases e
      exact new
    · rw [upd_ne z] at e
      refine (I.hok b u e).stay (fun _ _ _ g => g) (fun c g => ?_) fun c xs g => ?_
      · rw [upd_ne (ne_of_none g na)]
        exact g
      · rw [upd_ne (ne_of_none g na)]
        exact g
end
section
variable {X : Cx} {x n : Str} {c : Value} {i : Nat} {body suite : List Stmt} {b0 : Stmt} {p1 p2 p3 : Pos} {tb : WX → TS} {ts : Addr → Value → Option Addr → TS} {Wo : WX}
/-- try .. except x as n: what the suite keeps of the exception may be asked behind it -/
theorem ps_try_keep (stk : X.stack = X.env :: X.outer) (frm : X.env.frame = some X.env.locals) (nd : X.N.Nodup) (sl : X.N[i]? = some n) (kn : X.env.kindOf n = some .local) (nm : Names X x c) (out : Takes X Wo)
    (hbody : ∀ (W : WX) (pn : List (Addr × Obj)) (xe : Value → Shared → Prop), Takes (X.tr pn xe) W → PassesOwn (model X.prog X.w) X.A X.env xe → PSs (X.tr pn xe) body (tb W))
    (hsuite : ∀ (a : Addr) (ob : Obj) (cls : Value) (d : Option Addr) (pn : List (Addr × Obj)), Zc cls d ob → (∃ fs, ob.data = .fields fs) → PSs (X.suite a ((a, ob) :: pn)) (b0 :: suite) (ts a cls d)) :
    PS X (.Try body [.ExceptHandler (some (.Name x p1)) (some n) (b0 :: suite) p2] [] [] p3) (fun D σ H => tb (wKeep X.K c i ts Wo D) D σ H) := by
  constructor
  intro pins s σ H D I ask
  have fine := I.ok
  have frames : X.A.frames = some (X.env :: X.outer) := by rw [fine.frames, stk]
  have place : Loc X.env.scope n := .inl kn
  refine wpAny_Try_except ?_
  refine wpAny_mono ((hbody (wKeep X.K c i ts Wo D) (X.pn ++ pins) (fun e t1 => wpAny (model X.prog X.w) X.A (noteFrame e X.env) (fun _ t2 => wpAny (model X.prog X.w) X.A (setFlight e none) (fun _ t3 =>
    wpAny (model X.prog X.w) X.A (handleBy e X.env [.ExceptHandler (some (.Name x p1)) (some n) (b0 :: suite) p2]) (SP X pins D) X.xe t3) X.xe t2) X.xe t1) (fun v t0 air => ?caught) PassesOwn.looking).run [] s σ H D (I.toTry _) ask) (fun f s1 sp => ?done) (fun _ _ h => h)
  case done =>
    cases f with
    | next =>
      obtain ⟨τ, G, J, more⟩ := sp
      exact wpAny_execs_nil ⟨τ, G, J.ofTry fine, more⟩
    | brk =>
      obtain ⟨τ, G, J, more⟩ := sp
      exact ⟨τ, G, J.ofTry fine, more⟩
    | cont =>
      obtain ⟨τ, G, J, more⟩ := sp
      exact ⟨τ, G, J.ofTry fine, more⟩
    | ret u =>
      obtain ⟨v, τ, G, J, rel, more⟩ := sp
      exact ⟨v, τ, G, J.ofTry fine, rel, more⟩
  case caught =>
    obtain ⟨a, B, sB, ps, τ, G, cls, d, rfl, J0, ground, up0, sky, na, os, bare, hit, eHit, yes, no⟩ := air
    have J : Inv X pins τ G sB := J0.ofTry fine
    have sky1 : Sky B (X.env :: X.outer) a (Zc cls d) X.env.locals t0.heap := by rw [← stk]; exact sky
    show wpAny (model X.prog X.w) X.A (noteFrame (.ref a) X.env) _ _ _
    refine Sky.land Zc.steady frames frm sky1 fun g1 fly1 up1 => ?_
    obtain ⟨ob1, fs1, at_1, z1, d1⟩ := fly1.there
    have noFrame : a ∉ frs (X.env :: X.outer) := fun m => by
      obtain ⟨_, o2, e2, bad⟩ := fly1.2.2.1.mem m
      rw [at_1] at e2
      cases e2
      exact bad _ d1
    have nL : a ≠ X.env.locals := fun z => noFrame (List.mem_filterMap.mpr ⟨X.env, List.mem_cons_self, by rw [frm, z]⟩)
    have nF : a ∉ X.fs := fun m => by
      obtain ⟨e, he, q⟩ := List.mem_filterMap.mp m
      exact noFrame (List.mem_filterMap.mpr ⟨e, List.mem_cons_of_mem _ he, q⟩)
    -- the object is new since the entry
    have fresh : sB.heap.get? a = none := by
      cases e : sB.heap.get? a with
      | none => rfl
      | some o =>
        have inB := ground a o e (by rw [stk]; exact noFrame)
        rw [fly1.2.1] at inB
        cases inB
    have old : a ∈ X.ex ∨ X.s_0.heap.get? a = none := by
      by_cases ex : a ∈ X.ex
      · exact .inl ex
      · right
        cases e : X.s_0.heap.get? a with
        | none => rfl
        | some o =>
          obtain ⟨o2, e2⟩ := J.base.there a o e ex
          rw [fresh] at e2
          cases e2
    have J1 : Inv X pins τ G { t0 with heap := g1 } := J.landed ground fly1.1 (up0.trans up1) os bare
    have inner := J1.suite at_1 d1 na nL nF
    refine wpAny_handleBy_cons (codeAny_handlers_test ?_) (by intro q; cases q)
    have kind : PySem.W.Looks (model X.prog X.w) g1 (typeOf (.ref a)) cls := fun _ _ _ _ k q => wpAny_typeOf_ref (k _ _ at_1) (by rw [z1.1]; exact q)
    have match_ := PySem.W.exm_one (M := model X.prog X.w) J1.kIn kind eHit
    have named : ∀ {R : Value → Shared → Prop} {E : Value → Shared → Prop}, R c { t0 with heap := g1 } → wpAny (model X.prog X.w) (X.A.mark (some (.ref a))) (eval (.Name x p1) X.env) R E { t0 with heap := g1 } := fun {R E} r => by
      obtain ⟨u1, u2, u3 | ⟨u3, u4, u5⟩⟩ := nm
      · exact ld_glob (X := X.suite a ((a, ob1) :: (X.pn ++ pins))) inner u1 u3 r u2
      · exact ld_blt (X := X.suite a ((a, ob1) :: (X.pn ++ pins))) inner u1 u3 u4 r u5 u2
    refine named (match_.here ?_)
    have noPin : ∀ p ∈ X.pn ++ pins, p.1 ≠ a := fun p hp z => by
      have q := (J.pin p hp).1
      rw [z, fresh] at q
      cases q
    have noCell : ∀ z c, X.env.cells.lookup z = some c → c ≠ a := fun z c e q => by
      obtain ⟨v, o, e1, _⟩ := J.cell z c e
      rw [q, fresh] at e1
      cases e1
    cases hit with
    | true =>
      refine codeAny_handlers_suite_as ?_
      refine HandSPX.lands_againZ fly1 fun g2 fly2 up2 => ?_
      obtain ⟨ob2, fs2, at_2, z2, d2⟩ := fly2.there
      have J2 : Inv X pins τ G { t0 with heap := g2 } := J.landed ground fly2.1 ((up0.trans up1).trans up2) os bare
      have within := J2.suite at_2 d2 na nL nF
      refine store_ok (X := X.suite a ((a, ob2) :: (X.pn ++ pins))) (v := .ref a) within nd sl place rfl (fun t3 J3 => ?_) (.inr kn)
      refine wpAny_mono ((hsuite a ob2 cls d (X.pn ++ pins) z2 ⟨_, d2⟩).run [] t3 _ G _ J3 (yes rfl a na)) (fun f t4 sp => ?_) (fun _ _ z => False.elim z)
      have leave : ∀ {τ4 : L2.St} {G4 : Hp} {R : Shared → Prop}, Inv (X.suite a ((a, ob2) :: (X.pn ++ pins))) [] τ4 G4 t4 → (∀ t5, Inv (X.suite a ((a, ob2) :: (X.pn ++ pins))) [] (τ4.set i none) G4 t5 → R t5) →
          wpAny (model X.prog X.w) X.A (do bindName X.env n .none; unbindBehindTheSuite X.env n p2) (fun _ t5 => R t5) X.xe t4 := fun {τ4 G4 R} J4 r =>
        gone_ok (X := X.suite a ((a, ob2) :: (X.pn ++ pins))) J4 nd sl kn r
      cases f with
      | next =>
        obtain ⟨τ4, G4, J4, more⟩ := sp
        refine leave J4 fun t5 J5 => ?_
        obtain ⟨k1, k2, _⟩ := J5.pin (a, ob2) (List.mem_append_left _ List.mem_cons_self)
        have J6 := J5.unsuite fine
        exact ⟨_, _, Inv.track J6 k2 old nL noCell noPin (exK_ok k1 z2 d2), more⟩
      | brk =>
        obtain ⟨τ4, G4, J4, more⟩ := sp
        exact leave J4 fun t5 J5 => ⟨_, _, J5.unsuite fine, more⟩
      | cont =>
        obtain ⟨τ4, G4, J4, more⟩ := sp
        exact leave J4 fun t5 J5 => ⟨_, _, J5.unsuite fine, more⟩
      | ret u =>
        obtain ⟨v, τ4, G4, J4, rel, more⟩ := sp
        exact leave J4 fun t5 J5 => ⟨_, _, _, J5.unsuite fine, rel, more⟩
    | false =>
      show wpAny _ X.A (handleBy (.ref a) X.env []) _ _ _
      refine wpAny_handleBy_nil ?_
      obtain ⟨_, _, _, o3, v3, T3, l3, w3, in3, z3, data3, slot3, _⟩ := id fly1
      unfold PySem.passOn
      refine wpAny_bind (wpAny_field in3 data3 slot3 ?_)
      have ref3 : ¬ ((Value.ref T3 == Value.none) = true) := by simp
      rw [if_neg ref3]
      have throw3 : wpAny (model X.prog X.w) X.A (setFlight (.ref a) X.env.frame) (fun _ t4 => wpAny (model X.prog X.w) X.A (throw (.ref a) : Sem Flow) (SP X pins D) X.xe t4) X.xe { t0 with heap := g1 } := by
        rw [frm]
        refine HandSPX.setFlight_upZ fly1 fun g2 held2 up2 => wpAny_throw (out _ _ ?_)
        have sky2 : Sky B X.stack a (Zc cls d) X.env.locals g2 := .inr (.inr (by rw [stk]; exact held2))
        exact ⟨a, B, sB, pins, τ, G, cls, d, rfl, J, ground, (up0.trans up1).trans up2, sky2, na, os, bare, no rfl⟩
      first
        | exact wpAny_bind throw3
        | exact wpAny_bind (wpAny_pure (wpAny_bind throw3))
end
/-- what the written part says of a class whose objects are caught -/
structure ExcFacts (K : PySem.W.Frag) (C : Addr) : Prop where
  cl : (PySem.W.clsIn K C).isSome = true
  ga : PySem.W.findIn K (.ref C) "__getattribute__" = some (some (.builtin "BaseException.__getattribute__"))
  gg : PySem.W.findIn K (.ref C) "__getattr__" = some none
  sub : PySem.W.subIn K (.ref C) (.type "BaseException") = some true
  cls : PySem.W.findIn K (.ref C) "__class__" = some (some (.builtin "object.__class__"))
  get : PySem.W.specialIn K (.builtin "object.__class__") "__get__" = some (some (.builtin "getset_descriptor.__get__"))
  tak : PySem.W.takesIn K (.builtin "object.__class__") = some true
  obj : PySem.W.mroIn K C (.type "object") = some true
  dic : PySem.W.hasDictIn K C = true
  fld : PySem.W.findIn K (.ref C) "what" = some none
/-- which classes an exception's class stands under, by what the written part says of both -/
theorem kit_own {K : PySem.W.Frag} {C D : Addr} {b : Bool} (h1 : PySem.W.isClsIn K D = true) (h2 : PySem.W.typeIn K (.ref D) = some (.type "type")) (h3 : PySem.W.subIn K (.ref C) (.ref D) = some b) (h4 : PySem.W.subIn K (.ref C) (.ref C) = some true) : PySem.W.kitOne K (.ref C) (.ref D) = some b := by
  unfold PySem.W.kitOne
  by_cases e : (Value.ref C == Value.ref D) = true
  · rw [if_pos e]
    have e2 : Value.ref C = Value.ref D := eq_of_beq e
    rw [← e2, h4] at h3
    exact h3
  · rw [if_neg e]
    show (if ((PySem.W.clsIn K D).isSome && PySem.W.typeIn K (.ref D) == some (.type "type")) = true then PySem.W.subIn K (.ref C) (.ref D) else none) = some b
    have h1' : (PySem.W.clsIn K D).isSome = true := h1
    have e1 : ((PySem.W.clsIn K D).isSome && PySem.W.typeIn K (.ref D) == some (.type "type")) = true := by rw [h1', h2] <;> rfl
    rw [if_pos e1]
    exact h3
theorem kit_ve {K : PySem.W.Frag} {C : Addr} (h : PySem.W.subIn K (.ref C) (.type "ValueError") = some true) : PySem.W.kitOne K (.ref C) (.type "ValueError") = some true := by
  unfold PySem.W.kitOne
  rw [if_neg (by intro z; exact absurd (eq_of_beq z) (by intro y; cases y))]
  show (if PySem.W.kitMeta "ValueError" = true then PySem.W.subIn K (.ref C) (.type "ValueError") else none) = some true
  rw [if_pos (by decide +kernel)]
  exact h
theorem exm_own {K : PySem.W.Frag} {C D : Addr} {b : Bool} (h0 : PySem.W.subIn K (.ref D) (.type "BaseException") = some true) (h1 : PySem.W.isClsIn K D = true) (h2 : PySem.W.typeIn K (.ref D) = some (.type "type")) (h3 : PySem.W.subIn K (.ref C) (.ref D) = some b) : PySem.W.exmOne K (.ref C) (.ref D) = some b := by
  unfold PySem.W.exmOne
  have e0 : (PySem.W.subIn K (.ref D) (.type "BaseException") == some true) = true := by rw [h0] <;> rfl
  rw [if_pos e0]
  show (if ((PySem.W.clsIn K D).isSome && PySem.W.typeIn K (.ref D) == some (.type "type")) = true then PySem.W.subIn K (.ref C) (.ref D) else none) = some b
  have h1' : (PySem.W.clsIn K D).isSome = true := h1
  have e1 : ((PySem.W.clsIn K D).isSome && PySem.W.typeIn K (.ref D) == some (.type "type")) = true := by rw [h1', h2] <;> rfl
  rw [if_pos e1]
  exact h3
/-- what an exception's own dict has: its class's name, what it was made with -/
def wh (nm : Str) (v : V) : List (Str × V) := [(("word" : Str), .str nm), (("what" : Str), v)]
/-- a caught one at a, its dict at d: the field what is v -/
structure Kept (K : PySem.W.Frag) (H : Hp) (a C d : Addr) (v : V) : Prop where
  F : ExcFacts K C
  ob : H a = some (ExK (.ref C) (some d) a)
  di : ∃ nm : Str, H d = some (.xd (wh nm v))
theorem Kept.same {K : PySem.W.Frag} {H G : Hp} {a C d : Addr} {v : V} (k : Kept K H a C d v) (s : Same H G) : Kept K G a C d v := ⟨k.F, s _ _ k.ob, k.di.imp fun _ e => s _ _ e⟩
section
variable {X : Cx} {pins : List (Addr × Obj)} {σ : L2.St} {H : Hp} {s : Shared}
theorem Kept.inst {a C d : Addr} {v : V} (k : Kept X.K H a C d v) (I : Inv X pins σ H s) : ∃ (nm : Str) (ob od : Obj) (m : Str → Option Value), PySem.W.InstAt s.heap a ob C (some od) ∧ s.heap.Ns1 d m ∧ s.heap.get? d = some od ∧ (∀ f, RelO (List.lookup f (wh nm v)) (m f)) := by
  obtain ⟨nm, kdi⟩ := k.di
  obtain ⟨⟨ob, fs, e, z, da⟩, _⟩ := (show ObjOk X.prog X.w H s.heap a (ExK (.ref C) (some d) a) from I.hok a _ k.ob)
  obtain ⟨m, ns, r⟩ := (show ObjOk X.prog X.w H s.heap d (.xd (wh nm v)) from I.hok d _ kdi)
  obtain ⟨od, ho, _⟩ := lookIn_ns ns
  exact ⟨nm, ob, od, m, ⟨e, z.1, by unfold PySem.W.notCls; rw [da] <;> rfl, by rw [z.2]; exact ho⟩, ns, ho, r⟩
end
/-- isinstance of a kept one: a class, a tuple of classes -/
def rIsX (K : PySem.W.Frag) : List V → Hp → VK → Prop := fun xs H Q => ∃ (a C d : Addr) (v k : V) (u : Value) (b : Bool), xs = [.ref a, k] ∧ Kept K H a C d v ∧ ClsV k u ∧ PySem.W.kitOne K (.ref C) u = some b ∧ Q (.bl b) H
def rIsXT (K : PySem.W.Frag) : List V → Hp → VK → Prop := fun xs H Q => ∃ (a C d tp : Addr) (v : V) (ks : List V) (us : List Value) (b : Bool), xs = [.ref a, .ref tp] ∧ Kept K H a C d v ∧ H tp = some (.tup ks) ∧ Paired ClsV ks us ∧ PySem.W.kitAny K (.ref C) us = some b ∧ Q (.bl b) H
section
variable {X : Cx} {K : PySem.W.Frag}
theorem isX (hK : X.K = K) : CallR X (.builtin "isinstance") (rIsX K) := by
  subst hK
  intro pins s σ H xs us Q I rel ⟨a, C, d, v, k, u, b, e, kp, kc, ko, q⟩
  subst e
  obtain ⟨w1, w2, e2, r1, r2⟩ := vals2 rel
  subst e2
  obtain rfl : w1 = Value.ref a := r1
  obtain rfl := kc.eq r2
  obtain ⟨nm, ob, od, m, inst, _⟩ := kp.inst I
  have kit := PySem.W.kitx_exc (x := a) (ox := ob) (od := some od) kp.F.cl kp.F.ga kp.F.gg kp.F.sub kp.F.cls kp.F.get kp.F.tak kp.F.obj
  exact PySem.W.kia_one kit I.kIn inst ko (fun z => nomatch z) fun tk => ⟨.bl b, H, I.tok tk, rfl, q⟩
theorem isXT (hK : X.K = K) : CallR X (.builtin "isinstance") (rIsXT K) := by
  subst hK
  intro pins s σ H xs us Q I rel ⟨a, C, d, tp, v, ks, cs, b, e, kp, ht, kc, ko, q⟩
  subst e
  obtain ⟨w1, w2, e2, r1, r2⟩ := vals2 rel
  subst e2
  obtain rfl : w1 = Value.ref a := r1
  obtain rfl : w2 = Value.ref tp := r2
  obtain ⟨nm, ob, od, m, inst, _⟩ := kp.inst I
  have kit := PySem.W.kitx_exc (x := a) (ox := ob) (od := some od) kp.F.cl kp.F.ga kp.F.gg kp.F.sub kp.F.cls kp.F.get kp.F.tak kp.F.obj
  obtain ⟨_, items, rv, o, at_o, c_o, len_o, data_o⟩ := (show ObjOk X.prog X.w H s.heap tp (.tup ks) from I.hok tp _ ht)
  obtain rfl := ClsV.all kc rv
  obtain ⟨oc, odict, odata, oslots⟩ := o
  simp only at c_o data_o
  subst c_o data_o
  exact PySem.W.kia_tup kit I.kIn inst at_o ko (fun z => nomatch z) fun tk => ⟨.bl b, H, I.tok tk, rfl, q⟩
/-- caught.what -/
def tWhat (K : PySem.W.Frag) (te : TE) : TE := fun σ H Q => te σ H fun x G => ∃ (a C d : Addr) (v : V), x = .ref a ∧ Kept K G a C d v ∧ Q v G
theorem pe_what {e : Expr} {te : TE} {pos : Pos} (hK : X.K = K) (he : PE X e te) (hb : attributeBase e "what" X.env (eval e X.env) = eval e X.env := by rfl) : PE X (.Attribute e "what" pos) (tWhat K te) := by
  subst hK
  constructor
  intro pins s σ H Q I ask
  refine attr_of hb (thn (he.run pins s σ H _ I ask) fun u t1 got => ?_)
  obtain ⟨x, G, J, rel, a, C, d, v, e1, kp, q⟩ := got
  subst e1
  obtain rfl : u = Value.ref a := rel
  obtain ⟨nm, ob, od, m, inst, ns, at_d, fs⟩ := kp.inst J
  obtain ⟨od2, at_d2, look⟩ := lookIn_ns ns
  rw [at_d] at at_d2
  obtain rfl := Option.some.inj at_d2
  have l1 : List.lookup ("what" : Str) (wh nm v) = some v := rfl
  obtain ⟨w, hw, rw_⟩ := RelO.some_of (v := v) (o := m "what") (by rw [← l1]; exact fs "what")
  have found := PySem.W.findObj_own (K := X.K) (C := C) (od := od) kp.F.dic kp.F.fld rfl (by rw [look, hw])
  exact HandSPX.exc_get J.kIn inst kp.F.ga kp.F.gg kp.F.sub found (handed_of rw_) ⟨v, G, J.tok _, rw_, q⟩
end
end KR
/-! ### the name of its class, which an exception keeps: self.word = self.__class__.__name__ -/
namespace PySem.W
open PySem PySem.Calls PySem.Spec PyProof.Rows Builtin Builtin.Getset_descriptor
section
variable {pg : Program} {wd : World} {Ar : Around} {Ex : Value → Shared → Prop} {sh : Shared} {Fg : Frag} {Rr : Result → Shared → Prop} {Cl z : Addr} {oz : Obj} {oy : Option Obj}
theorem own_dga (dv tv : Value) (b : Addr) : descrGetArgs ⟨[dv, .ref b, tv], []⟩ = pure (dv, some (.ref b), given tv) := by kernel_rfl
theorem own_name_get {tv : Value} {oc : Obj} {nm : Str} {tk : Tok} (at_C : sh.heap.get? Cl = some oc) (ty : oc.cls = .type "type") (sl : (oc.slots[2]?).join = some (.str nm tk)) (want : Rr (.ok (.ret (.str nm tk))) sh) :
    codeAny (model pg wd) Ar (.call (.builtin "getset_descriptor.__get__") ⟨[.builtin "type.__name__", .ref Cl, tv], []⟩) Rr sh := by
  obtain ⟨hh, g, dr, t, os⟩ := sh
  have K0 : Looks (model pg wd) hh (typeOf (.ref Cl)) (.type "type") := fun _ _ _ _ keep q => wpAny_typeOf_ref (keep _ _ at_C) (by rw [ty]; exact q)
  have K1 : Looks (model pg wd) hh (isSubtype (.type "type") (.type "type")) true := .of_pure (by rw [isSubtype_type] <;> kernel_rfl)
  refine codeAny_call_builtin KF.slot_gs.plain KF.entry_gs <| KF.slot_gs.check _ _ _ _ _ _ _ _ ktyn_type (KF.args_gs _ _ _) ?_
  unfold Builtin.«getset_descriptor.__get__» descrGet; rw [own_dga]; refine wpAny_bind <| wpAny_pure ?_
  unfold descrGetter descrCheckInstance descrNameAndClass isInstance; simp only [ktyn_owner]
  repeat lk
  refine ⟨Code.quiet_builtin _ (by decide +kernel), codeAny_builtin ktyn_entry ?_⟩
  unfold Builtin.«type.__name__»; dsimp only
  unfold keptObject slotAt; dsimp only
  refine wpAny_bind (wpAny_bind (wpAny_loadPart_at at_C (wpAny_pure ?_)))
  rw [sl]; dsimp only
  first
    | exact wpAny_pure want
    | exact wpAny_bind (wpAny_pure want)
    | exact wpAny_bind (wpAny_pure (wpAny_pure want))
theorem own_name {expr : Bool} {Q : Value → Shared → Prop} {oc : Obj} {nm : Str} {tk : Tok} (X : Fg.In sh.heap) (rd : readsIn Fg Cl (.type "type") = true) (fc : findCls Fg (.ref Cl) (.type "type") "__name__" = some (.get (.builtin "getset_descriptor.__get__") (.builtin "type.__name__") (.ref Cl) (.type "type")))
    (lk : Fg.lookup Cl = some oc) (ty : oc.cls = .type "type") (sl : (oc.slots[2]?).join = some (.str nm tk)) (want : ∀ u, Q (.str nm tk) { sh with toks := u }) : wpAny (model pg wd) Ar (getAttr (.ref Cl) "__name__" expr) Q Ex sh := by
  refine cls_read X rd fc ?_
  show wpAny _ _ (holding [Value.builtin "type.__name__"] (call (.builtin "getset_descriptor.__get__") [.builtin "type.__name__", .ref Cl, .type "type"]) >>= ret) _ _ _
  refine wpAny_bind <| wpAny_holding <| wpAny_call <| own_name_get (sh := { sh with toks := sh.toks + 1 }) (X _ _ lk) ty sl ?_
  exact wpAny_pure (handed_on rfl (want _))
theorem own_class {expr : Bool} {Q : Value → Shared → Prop} (X : Fg.In sh.heap) (I : InstAt sh.heap z oz Cl oy) (c1 : findIn Fg (.ref Cl) "__getattribute__" = some (some (.builtin "BaseException.__getattribute__"))) (c2 : findIn Fg (.ref Cl) "__getattr__" = some none)
    (c3 : subIn Fg (.ref Cl) (.type "BaseException") = some true) (c4 : (clsIn Fg Cl).isSome = true) (c5 : findIn Fg (.ref Cl) "__class__" = some (some (.builtin "object.__class__"))) (c6 : specialIn Fg (.builtin "object.__class__") "__get__" = some (some (.builtin "getset_descriptor.__get__")))
    (c7 : takesIn Fg (.builtin "object.__class__") = some true) (c8 : mroIn Fg Cl (.type "object") = some true) (want : ∀ u, Q (.ref Cl) { sh with toks := u }) : wpAny (model pg wd) Ar (getAttr (.ref z) "__class__" expr) Q Ex sh := by
  have fo : findObj Fg Cl oy "__class__" = some (.bind (.builtin "getset_descriptor.__get__") (.builtin "object.__class__")) := by
    cases oy with
    | none => exact findObj_dataN c4 c5 c6 c7
    | some ob => exact findObj_data c4 c5 c6 c7
  obtain ⟨hh, g, dr, t, os⟩ := sh
  have K0 := I.type (M := model pg wd)
  have K1 := looks_findIn (M := model pg wd) X c1
  have K2 := looks_findIn (M := model pg wd) X c2
  have K3 := looks_find (M := model pg wd) X I fo
  have below : Looks (model pg wd) hh (isInstance (.ref z) (.type "BaseException")) true := K0.andThen (looks_subIn X c3)
  have n0 : (expr && onTheHeap (Value.builtin "BaseException.__getattribute__")) = false := by cases expr <;> rfl
  have n1 : (Value.builtin "BaseException.__getattribute__" == Value.builtin "object.__getattribute__") = false := by decide +kernel
  have n2 : (onTheHeap (Value.ref Cl) && Value.builtin "BaseException.__getattribute__" == Value.builtin "object.__getattribute__") = false := by rw [n1] <;> rfl
  unfold getAttr getAttrBy
  refine wpAny_bind <| wpAny_mkText <| wpAny_holding <| wpAny_bind <| K0.at <| wpAny_bind <| K1.at ?_
  show wpAny _ _ (ite ((onTheHeap (Value.ref Cl) && Value.builtin "BaseException.__getattribute__" == Value.builtin "object.__getattribute__") = true) _ _) _ _ _
  rw [n2, if_neg Bool.false_ne_true]; unfold getAttrByItsOwn hookBefore; refine wpAny_bind ?_
  rw [if_pos (show onTheHeap (Value.ref Cl) = true from rfl)]; refine K2.at ?_; refine wpAny_bind <| wpAny_attempt <| wpAny_holding ?_
  unfold callGetattribute; rw [n0, if_neg Bool.false_ne_true]; unfold boundAndCalled; rw [PySem.F.excAttr_ValueError.ga.bind (.ref z)]; refine wpAny_bind <| wpAny_pure ?_
  show wpAny _ _ (call (.builtin "BaseException.__getattribute__") [.ref z, .str "__class__" t]) _ _ _
  refine wpAny_call <| codeAny_call_builtin PySem.F.excAttr_ValueError.ga.plain PySem.F.entry_bexc_ga ?_
  refine @check_slot (model pg wd) _ _ ⟨hh, g, dr, t + 1, os⟩ "BaseException.__getattribute__" "BaseException" "__getattribute__" (.ref z) [.str "__class__" t] [] _ (by decide +kernel) (by decide +kernel) below (PySem.F.args_bexc_ga (.ref z) (.str "__class__" t)) ?_
  unfold Builtin.«object.__getattribute__»; refine wpAny_bind <| wpAny_of_eq (a := ((Value.ref z : Value), [Value.str "__class__" t])) (by first | rfl | (simp only [slotArgs]; rfl)) ?_
  refine wpAny_bind <| wpAny_pure <| wpAny_bind <| K0.at <| wpAny_bind <| K3.at ?_
  show wpAny _ _ (holding [Value.builtin "object.__class__"] (call (.builtin "getset_descriptor.__get__") [.builtin "object.__class__", .ref z, .ref Cl]) >>= ret) _ _ _
  refine wpAny_bind <| wpAny_holding <| wpAny_call <| class_get (s := ⟨hh, g, dr, t + 1, os⟩) (ox := oz) (od := oy) X I c8 ?_
  refine wpAny_pure ?_
  show wpAny _ _ (handedOut (.ref Cl)) _ _ _
  rw [handedOut_of (v := .ref Cl) rfl]
  first
    | exact wpAny_pure (want _)
    | exact wpAny_pure (wpAny_pure (want _))
end
end PySem.W
namespace KR
open PySem PySem.Spec PyProof.Rows L2
/-- a class whose own name, kept since it was made, is nm -/
structure NmC (K : PySem.W.Frag) (C : Addr) (nm : Str) : Prop where
  ro : ∃ (oc : Obj) (tk : Tok), K.lookup C = some oc ∧ oc.cls = .type "type" ∧ (oc.slots[2]?).join = some (.str nm tk)
  rd : PySem.W.readsIn K C (.type "type") = true
  fw : PySem.W.findIn K (.ref C) "word" = some none
  fc : PySem.W.findCls K (.ref C) (.type "type") "__name__" = some (.get (.builtin "getset_descriptor.__get__") (.builtin "type.__name__") (.ref C) (.type "type"))
/-- self.__class__.__name__ of one that is being made -/
def tCnm (K : PySem.W.Frag) (to : TE) : TE := fun σ H Q => to σ H fun x H1 => ∃ (a C d : Addr) (fs : List (Str × V)) (nm : Str), x = .ref a ∧ ExcFacts K C ∧ NmC K C nm ∧ H1 a = some (exo a C (some d)) ∧ H1 d = some (exd d fs) ∧ Q (.str nm) H1
theorem pe_cnm {X : Cx} {o : Expr} {to : TE} {p1 p2 : Pos} (ho : PE X o to) (h1 : attributeBase o "__class__" X.env (eval o X.env) = eval o X.env := by rfl)
    (h2 : attributeBase (.Attribute o "__class__" p1) "__name__" X.env (eval (.Attribute o "__class__" p1) X.env) = eval (.Attribute o "__class__" p1) X.env := by rfl) : PE X (.Attribute (.Attribute o "__class__" p1) "__name__" p2) (tCnm X.K to) := by
  refine ⟨fun pins s σ H Q I ask => ?_⟩
  refine attr_of h2 (attr_of h1 (thn (ho.run pins s σ H _ I ask) fun u s1 got => ?_))
  obtain ⟨x, H1, J, rel, a, C, d, fs, nm, e1, F, N, ha, hd, q⟩ := got
  subst e1
  obtain rfl : u = Value.ref a := rel
  obtain ⟨t1, at_a⟩ := exo_at J.hok ha
  obtain ⟨mA, ns, _⟩ := exd_at J.hok hd
  obtain ⟨od, at_d, _⟩ := lookIn_ns ns
  obtain ⟨oc, tk, lk, ty, sl⟩ := N.ro
  refine PySem.W.own_class J.kIn (oy := some od) ⟨at_a, rfl, rfl, at_d⟩ F.ga F.gg F.sub F.cl F.cls F.get F.tak F.obj fun u1 => ?_
  exact PySem.W.own_name (J.tok u1).kIn N.rd N.fc lk ty sl fun u2 => ⟨.str nm, H1, J.tok u2, ⟨tk, rfl⟩, q⟩
/-- the dict of one that is being made, told twice -/
theorem upd_twice {H : Hp} {a d : Addr} {o1 o2 o3 : HO} (ne : d ≠ a) : upd (upd (upd H d o1) a o2) d o3 = upd (upd H d o3) a o2 := by
  funext b
  by_cases e1 : b = a
  · subst e1
    rw [upd_ne (Ne.symm ne), upd_same, upd_same]
  · by_cases e2 : b = d
    · subst e2
      rw [upd_same, upd_ne e1, upd_same]
    · rw [upd_ne e2, upd_ne e1, upd_ne e2, upd_ne e1, upd_ne e2]
/-- self.what = what; self.word = self.__class__.__name__ -/
theorem init_reads {K : PySem.W.Frag} {C a : Addr} {nm : Str} {v : V} {H : Hp} {D : Ends} (O : OexC K C) (F : ExcFacts K C) (N : NmC K C nm) (ha : H a = some (exo a C none)) (q : ∀ dx, H dx = none → dx ≠ a → D.nx [some (.ref a), some v] (upd (upd H dx (exd dx (wh nm v))) a (exo a C (some dx)))) :
    tSeq (tOst K "what" (tVar 0) (tVar 1)) (tOst K "word" (tVar 0) (tCnm K (tVar 0))) D [some (.ref a), some v] H := by
  refine ⟨_, rfl, _, rfl, a, C, rfl, O, F.fld, .inl ⟨ha, fun dx h1 h2 => ?_⟩⟩
  have e1 : (upd (upd H dx (exd dx [(("what" : Str), v)])) a (exo a C (some dx))) dx = some (exd dx [(("what" : Str), v)]) := by rw [upd_ne h2, upd_same]
  refine ⟨_, rfl, a, C, dx, _, nm, rfl, F, N, upd_same, e1, _, rfl, a, C, rfl, O, N.fw, .inr ⟨dx, _, upd_same, e1, by show 1 ≤ 900; decide, ?_⟩⟩
  rw [upd_twice h2]
  exact q dx h1 h2
end KR
/-! ### an instance that is made, where its own __init__ may raise -/
namespace KR
open PySem PySem.Spec PyProof.Rows L2
theorem passX0 {X : Cx} : Passes (L2.CX X.prog X.w) X E0 := fun pins σ H s1 e s' I z => by
  obtain ⟨a, B, H', cls, d, _, _, _, _, _, _, _, q⟩ := z
  exact q.elim
section
variable {X : Cx} {CX : CXT} {n : Nat} {fI cl : Addr} {fd : FuncData} {names : List Str} {sp : Sp} {E : L2.St → XK} {x : Str} {p pos : Pos} {e : Expr} {es : List Expr} {t : TA}
/-- what is left to be shown of it: __init__ with the new instance ahead -/
def tMakeS (cl : Addr) (sp : Sp) (E : L2.St → XK) (t : TA) : TE := fun σ H Q => t σ H fun vs G => ∀ a da, G a = none → G da = none → da ≠ a → sp (.ref a :: vs) (upd (upd G da (.own a)) a (.ins cl da [])) (fun u J => u = .non ∧ Q (.ref a) J) (E σ)
theorem pe_makeS (mk : Mk X.K cl fI) (F : FnOk X.prog X.w X.K X.mg X.base CX n fI fd names sp) (room : Room (n + 1) X.A) (glob : Gl X x) (here : X.mg x = some (.ref cl)) (bind : Binds X.K fd names []) (pass : ∀ σ, PassesAt CX X σ (E σ)) (args : PA X (e :: es) t)
    (nd : (x == ("__debug__" : Str)) = false := by decide) (st : starEach (e :: es) X.env = (false, eval e X.env) :: starEach es X.env := by rfl) (bk : (backTo pos (starEach es X.env)).any (·.1) = false := by rfl) : PE X (.Call (.Name x p) (e :: es) [] pos) (tMakeS cl sp E t) := by
  constructor
  intro pins s σ H Q I ask
  refine wpAny_Call_Name_kw (ld_glob I glob here (PySem.W.callWith_K (h₀ := X.base) I.ok.mod.kin mk.kp (thn (args.run pos pins s σ H _ I ask) ?_) st bk) nd)
  rintro us s1 ⟨vs, G, J, rel, q⟩
  refine ⟨J.kIn, ?_⟩
  have ask2 := q (s1.heap.objs.size + 1) s1.heap.objs.size (J.hok.fresh (Nat.le_succ _)) (J.hok.fresh (Nat.le_refl _)) (Nat.ne_of_lt (Nat.lt_succ_self _))
  have made := Inv.made (C := cl) J
  have rel2 : Vals (V.ref (s1.heap.objs.size + 1) :: vs) (Value.ref (s1.heap.objs.size + 1) :: us) := .cons rfl rel
  have many : (Value.ref (s1.heap.objs.size + 1) :: us).length = names.length := by rw [← F.len _ _ _ _ ask2]; exact rel2.length.symm
  have bound := bind _ (Value.ref (s1.heap.objs.size + 1) :: us) made.kIn (by rw [List.append_nil]; exact many)
  rw [List.append_nil] at bound
  refine wpAny_call (make_map (f := fI) J.kIn mk.makes mk.init (beq_iff_eq.mp mk.fn) (codeAny_mono (F.run _ X.stack _ _ ⟨Value.ref (s1.heap.objs.size + 1) :: us, []⟩ _ _ _ (E σ) (room.make cl us []) (made.env0.make cl us []) bound rel2 ask2) ?_))
  intro r s2 post
  match r, post with
  | .error er, post => exact pass σ pins _ _ er s2 made post
  | .ok (.ret u), post =>
    obtain ⟨v, H2, J2, rv, ev, q3⟩ := made.after post
    cases ev
    exact ⟨rv, V.ref (s1.heap.objs.size + 1), H2, J2, rfl, q3⟩
  | .ok .next, post => exact post.elim
  | .ok .brk, post => exact post.elim
  | .ok .cont, post => exact post.elim
end
/-- behind a raise all is as it was, beside it the new one's own dict -/
theorem raised_keeps {G : Hp} {a d : Addr} {o1 o2 o3 o4 : HO} (na : G a = none) (ndd : G d = none) : Same G (upd (del (upd (upd (upd G a o1) d o2) a o3) a) d o4) := fun b o e => by
  have ba := ne_of_none e na
  have bd := ne_of_none e ndd
  rw [upd_ne bd, del_ne ba, upd_ne ba, upd_ne bd, upd_ne ba]
  exact e
/-- how a refusal is made: its field what is what it is made with, its field word its class's name -/
def sp_initX (C : Addr) (nm : Str) : Sp := fun vs H Q _ => ∃ (a : Addr) (v : V), vs = [.ref a, v] ∧ H a = some (exo a C none) ∧ ∀ dx, H dx = none → dx ≠ a → Q .non (upd (upd H dx (exd dx (wh nm v))) a (exo a C (some dx)))
end KR
/-! ### data of tuples, texts, numbers; repr of any of it -/
namespace KR
open PySem PySem.Spec PyProof.Rows L2
inductive Dg (K : PySem.W.Frag) (H : Hp) : Nat → V → PyData → Prop
  | non (n : Nat) : Dg K H n .non .none
  | int (n : Nat) (i : Int) : Dg K H n (.int i) (.int i)
  | str (n : Nat) (x : Str) : Dg K H n (.str x) (.str x)
  | tup {n : Nat} {a : Addr} {xs : List V} {ds : List PyData} : SqT K H a xs → xs.length = ds.length → (∀ (i : Nat) (x : V) (d : PyData), xs[i]? = some x → ds[i]? = some d → Dg K H n x d) → Dg K H (n + 1) (.ref a) (.tuple ds)
theorem Dg.on {K : PySem.W.Frag} {H H' : Hp} (k : ∀ a xs, SqT K H a xs → SqT K H' a xs) : ∀ {n : Nat} {v : V} {d : PyData}, Dg K H n v d → Dg K H' n v d := by
  intro n v d h
  induction h with
  | non n => exact .non n
  | int n i => exact .int n i
  | str n x => exact .str n x
  | tup h1 h2 _ ih => exact .tup (k _ _ h1) h2 ih
theorem Dg.same {K : PySem.W.Frag} {H H' : Hp} (s : Same H H') {n : Nat} {v : V} {d : PyData} (h : Dg K H n v d) : Dg K H' n v d := h.on fun _ _ q => Same.tup s q
theorem Dg.fr {K : PySem.W.Frag} {H H' : Hp} {p : Addr} {m n : Nat} {v : V} {d : PyData} (h : Dg K H n v d) (B : BoxAt H p m) (f : Fr p H H') : Dg K H' n v d := h.on fun _ _ q => sqT_fr q B f
theorem dps_of {K : PySem.W.Frag} {H : Hp} : ∀ {xs : List V} {ds : List PyData}, xs.length = ds.length → (∀ (i : Nat) (x : V) (d : PyData), xs[i]? = some x → ds[i]? = some d → Dp K H x d) → DpAll K H xs ds
  | [], [], _, _ => .nil
  | x :: xs, d :: ds, hl, h => .cons (h 0 x d rfl rfl) (dps_of (by rw [List.length_cons, List.length_cons] at hl; omega) fun i y e a b => h (i + 1) y e a b)
theorem Dg.dp {K : PySem.W.Frag} {H : Hp} {n : Nat} {v : V} {d : PyData} (h : Dg K H n v d) : Dp K H v d := by
  induction h with
  | non n => exact .non
  | int n i => exact .int i
  | str n x => exact .str x
  | tup h1 h2 _ ih => exact .tup h1 (dps_of h2 ih)
def DgAll (K : PySem.W.Frag) (H : Hp) (n : Nat) (xs : List V) (ds : List PyData) : Prop := xs.length = ds.length ∧ ∀ (i : Nat) (x : V) (d : PyData), xs[i]? = some x → ds[i]? = some d → Dg K H n x d
theorem DgAll.nil {K : PySem.W.Frag} {H : Hp} {n : Nat} : DgAll K H n [] [] := ⟨rfl, fun i x d h => by simp at h⟩
theorem DgAll.cons {K : PySem.W.Frag} {H : Hp} {n : Nat} {x : V} {d : PyData} {xs : List V} {ds : List PyData} (h : Dg K H n x d) (t : DgAll K H n xs ds) : DgAll K H n (x :: xs) (d :: ds) :=
  ⟨by rw [List.length_cons, List.length_cons, t.1], fun i u v hu hv => match i, hu, hv with
    | 0, hu, hv => by cases hu; cases hv; exact h
    | i + 1, hu, hv => t.2 i u v hu hv⟩
theorem DgAll.tup {K : PySem.W.Frag} {H : Hp} {n : Nat} {xs : List V} {ds : List PyData} {a : Addr} (t : DgAll K H n xs ds) (h : SqT K H a xs) : Dg K H (n + 1) (.ref a) (.tuple ds) := .tup h t.1 t.2
/-- data that can be shown -/
structure Fine (k w : Nat) (d : PyData) : Prop where
  lay : PyData.canLay0 d = true
  dep : PyData.depth d ≤ k
  wt : PyData.weight d ≤ w
  ish : PyData.intsShort 13 d = true
  sh : PyData.showable d = true
  nd : PyData.hasDict d = false
structure FineAll (k w : Nat) (ds : List PyData) : Prop where
  lay : PyData.canLayAll0 ds = true
  dep : PyData.depthAll ds ≤ k
  wt : PyData.weightAll ds ≤ w
  ish : PyData.intsShortAll 13 ds = true
  sh : PyData.showableAll ds = true
  nd : PyData.hasDictAll ds = false
theorem FineAll.nil (k : Nat) : FineAll k 0 [] := ⟨rfl, Nat.zero_le _, Nat.le_refl _, rfl, rfl, rfl⟩
theorem FineAll.cons {k a b : Nat} {d : PyData} {ds : List PyData} (h : Fine k a d) (t : FineAll k b ds) : FineAll k (a + 1 + b) (d :: ds) := by
  refine ⟨?_, ?_, ?_, ?_, ?_, ?_⟩
  · show (PyData.canLay0 d && PyData.canLayAll0 ds) = true
    rw [h.lay, t.lay] <;> rfl
  · show max (PyData.depth d) (PyData.depthAll ds) ≤ k
    have := h.dep
    have := t.dep
    omega
  · show PyData.weight d + 1 + PyData.weightAll ds ≤ a + 1 + b
    have := h.wt
    have := t.wt
    omega
  · show (PyData.intsShort 13 d && PyData.intsShortAll 13 ds) = true
    rw [h.ish, t.ish] <;> rfl
  · show (PyData.showable d && PyData.showableAll ds) = true
    rw [h.sh, t.sh] <;> rfl
  · show (PyData.hasDict d || PyData.hasDictAll ds) = false
    rw [h.nd, t.nd] <;> rfl
theorem FineAll.tup {k w : Nat} {ds : List PyData} (t : FineAll k w ds) : Fine (k + 1) w (.tuple ds) := ⟨t.lay, Nat.succ_le_succ t.dep, t.wt, t.ish, t.sh, t.nd⟩
theorem Fine.up {k k' w w' : Nat} {d : PyData} (h : Fine k w d) (h1 : k ≤ k') (h2 : w ≤ w') : Fine k' w' d := ⟨h.lay, Nat.le_trans h.dep h1, Nat.le_trans h.wt h2, h.ish, h.sh, h.nd⟩
theorem Fine.non (k : Nat) : Fine k 0 .none := ⟨rfl, Nat.zero_le _, Nat.le_refl _, rfl, rfl, rfl⟩
theorem nat_short : ∀ n < 1001, (PyData.shown (.int ((n : Nat) : Int))).length ≤ 13 ∧ PyData.weight (.int ((n : Nat) : Int)) ≤ 12 ∧ ((n : Nat) : Int).natAbs.log2 < 1920 := by decide +kernel
theorem Fine.int {i : Int} (k : Nat) (h0 : 0 ≤ i) (h1 : i ≤ 1000) : Fine k 12 (.int i) := by
  obtain ⟨n, rfl⟩ : ∃ n : Nat, i = (n : Int) := ⟨i.toNat, by omega⟩
  obtain ⟨e1, e2, e3⟩ := nat_short n (by omega)
  exact ⟨rfl, Nat.zero_le _, e2, decide_eq_true e1, decide_eq_true e3, rfl⟩
theorem Fine.minus (k : Nat) : Fine k 12 (.int (-1)) := ⟨rfl, Nat.zero_le _, by decide +kernel, by decide +kernel, by decide +kernel, rfl⟩
theorem Fine.str {x : Str} {n : Nat} (k : Nat) (h : x.length ≤ n) (c : ∀ c ∈ TL.tl x, c < 128) : Fine k n (.str x) := by
  refine ⟨?_, Nat.zero_le _, h, rfl, rfl, rfl⟩
  show PyData.strOk x = true
  unfold PyData.strOk
  rw [← Array.all_toList, List.all_eq_true]
  exact fun d hd => decide_eq_true (Nat.lt_trans (c d hd) (by decide))
theorem Fine.line {k w : Nat} {d : PyData} (h : Fine k w d) (hk : k ≤ 60) (hw : w ≤ 100000) : d.shown.length ≤ sizeLine := by
  have dep := h.dep
  have wt := h.wt
  have l : PyData.layable0 d = true := by
    show (PyData.canLay0 d && decide (PyData.depth d ≤ 64) && decide (PyData.weight d ≤ 2 ^ 20)) = true
    rw [h.lay, decide_eq_true (by omega), decide_eq_true (show PyData.weight d ≤ 2 ^ 20 by omega)] <;> rfl
  exact Nat.le_trans (shown_le13 l h.ish) (by decide)
/-- repr of any such data -/
def rReprV (K : PySem.W.Frag) : List V → Hp → VK → Prop := fun xs H Q => ∃ (v : V) (d : PyData) (k w : Nat), xs = [v] ∧ Dp K H v d ∧ Fine k w d ∧ k ≤ 60 ∧ w ≤ 100000 ∧ Q (.str d.shown) H
theorem cr_reprV {X : Cx} {K : PySem.W.Frag} (hK : X.K = K) (hg : X.A.guards = some []) (hu : X.A.units + 64 < cLine) : CallR X (.builtin "repr") (rReprV K) := by
  subst hK
  intro pn s σ H xs us Q I r want
  obtain ⟨v, d, k, w, rfl, dp, f, hk, hw, q⟩ := want
  have len := f.line hk hw
  have dep := f.dep
  cases r with
  | cons r1 r2 =>
    cases r2
    cases dp with
    | non =>
      cases r1
      exact PySem.P.repr_of_none ⟨.str _, H, I.tok _, ⟨_, rfl⟩, q⟩
    | bl b =>
      cases r1
      exact PySem.P.repr_of_bool ⟨.str _, H, I.tok _, ⟨_, rfl⟩, q⟩
    | int i =>
      obtain ⟨t, rfl⟩ := r1
      exact PySem.P.repr_of_int (of_decide_eq_true f.sh) ⟨.str _, H, I.tok _, ⟨_, rfl⟩, q⟩
    | str x =>
      obtain ⟨t, rfl⟩ := r1
      exact PySem.P.repr_of_str ⟨.str _, H, I.tok _, ⟨_, rfl⟩, q⟩ len
    | lst a1 a2 =>
      obtain ⟨as, rd⟩ := Dp.reads I _ _ _ (Dp.lst a1 a2) r1
      cases r1
      exact repr_of_reads' rd f.sh (PyData.noDict_hsm f.nd) hg (by omega) (fun _ _ e => e) (fun h' u tk hkk => ⟨.str _, H, I.kept (fun b o e => hkk b o e), ⟨_, rfl⟩, q⟩) len
    | tup a1 a2 =>
      obtain ⟨as, rd⟩ := Dp.reads I _ _ _ (Dp.tup a1 a2) r1
      cases r1
      exact repr_of_reads' rd f.sh (PyData.noDict_hsm f.nd) hg (by omega) (fun _ _ e => e) (fun h' u tk hkk => ⟨.str _, H, I.kept (fun b o e => hkk b o e), ⟨_, rfl⟩, q⟩) len
end KR
/-! ### plans of a day: a range that is kept; data of days -/
namespace KR
open PySem PySem.Spec PyProof.Rows L2
/-- a comprehension in a comprehension -/
theorem blkOk_in {N : List Str} {outer scope sc : Scope} {own : List (Str × Nat)} {cl : List (Str × Addr)} {C : Addr} {env : Env} (hs : env.scope = sc) (h : blkC N (relS outer sc) scope own = true) : BlkOk N (compEnvC outer cl C env).scope scope own := by
  subst hs
  exact blkOk_by h
/-- range(n) as a value -/
def tRngV (ta : TE) : TE := fun σ H Q => ta σ H fun x H1 => ∃ j : Int, x = .int j ∧ ∀ a, H1 a = none → Q (.ref a) (upd H1 a (.rng 0 j))
theorem pe_rngV {X : Cx} {a : Expr} {ta : TE} {p pos : Pos} (hg : Gl X "range") (hm : X.mg "range" = none) (ha : PE X a ta) (na : starEach [a] X.env = (false, eval a X.env) :: starEach [] X.env := by rfl) : PE X (.Call (.Name "range" p) [a] [] pos) (tRngV ta) := by
  refine ⟨fun pins s σ H Q I h => ?_⟩
  refine Call_ (ld_blt I hg hm boot_range (PyProof.Rows.callWith_type1 (one_arg ha I h (fun v s2 x H2 I2 r q => ?_) na) na))
  obtain ⟨n, rfl, q⟩ := q
  obtain ⟨t, rfl⟩ := r
  exact call_range_1 ⟨.ref s2.heap.objs.size, upd H2 s2.heap.objs.size (.rng 0 n), I2.laid (fun b u e => Heap.get?_push_of_some _ e) (Nat.le_refl _) ⟨_, _, _, Heap.get?_push_size _ rfl⟩, rfl, q _ (I2.hok.fresh (Nat.le_refl _))⟩
/-- a kept range, walked -/
def iRngV (te : TE) : TI := fun σ H R => te σ H fun x H1 => ∃ (a : Addr) (lo hi : Int), x = .ref a ∧ H1 a = some (.rng lo hi) ∧ (-(2 ^ 62) ≤ lo ∧ lo < 2 ^ 62 ∧ -(2 ^ 62) ≤ hi ∧ hi < 2 ^ 62) ∧ R (Itr lo (hi - lo).toNat) H1
theorem pi_rngV {X : Cx} {tg e : Expr} {te : TE} (he : PE X e te) : PI X tg e (iRngV te) := by
  refine ⟨fun pins s σ H R I h => ?_⟩
  refine thn (he.run pins s σ H _ I h) fun v s1 ⟨x, H1, I1, r1, q1⟩ => ?_
  obtain ⟨a, lo, hi, e, ha, ⟨h1, h2, h3, h4⟩, q⟩ := q1
  subst e
  cases r1
  obtain ⟨t, u, w, g⟩ := I1.hok a _ ha
  refine wpAny_pyIter_range (show IsRange s1.heap a lo hi 1 t u w from g) (small_one h1 h2 h3 h4) ?_
  refine pi_one (tk := s1.toks) I1 _ (turn_range _ lo (hi - lo).toNat) ?_ q
  have e1 : lo + ((0 : Nat) : Int) * 1 = lo := by simp
  have e2 : (((hi - lo).toNat : Nat) : Int) - ((0 : Nat) : Int) = Builtin.Range.rangeSize lo hi 1 := by rw [rangeSize_one]; split <;> omega
  show IsRangeIter _ _ (lo + ((0 : Nat) : Int) * 1) ((((hi - lo).toNat : Nat) : Int) - ((0 : Nat) : Int)) 1
  rw [e1, e2]
  exact Heap.get?_push_size _ rfl
/-! days as data that can be shown -/
theorem Fine.ldl {i : Int} (k : Nat) (h0 : 0 ≤ i) (h1 : i ≤ 1000000) : Fine k 20 (.int i) := by
  have n : i.natAbs < 2 ^ 20 := by omega
  have l : i.natAbs ≠ 0 → i.natAbs.log2 < 20 := fun z => (Nat.log2_lt z).mpr n
  refine ⟨rfl, Nat.zero_le _, ?_, decide_eq_true (PyData.shown_int_le (by omega)), decide_eq_true ?_, rfl⟩
  · show (if i == 0 then 0 else i.natAbs.log2 + 1) ≤ 20
    by_cases c : i = 0
    · rw [c]
      decide
    · rw [if_neg (by simpa using c)]
      have := l (by omega)
      omega
  · by_cases c : i.natAbs = 0
    · rw [c]
      decide
    · have := l c
      omega
theorem FineAll.ldl (k : Nat) : ∀ {ns : List Int}, Ldl ns → FineAll k (21 * ns.length) (ns.map PyData.int)
  | [], _ => FineAll.nil k
  | z :: r, h => by
    have a := Fine.ldl k (h z List.mem_cons_self).1 (h z List.mem_cons_self).2
    have b := FineAll.cons a (FineAll.ldl k (ns := r) fun y hy => h y (List.mem_cons_of_mem _ hy))
    have e : 20 + 1 + 21 * r.length = 21 * (z :: r).length := by rw [List.length_cons]; omega
    rw [e] at b
    exact b
theorem FineAll.lst {k w : Nat} {ds : List PyData} (t : FineAll k w ds) : Fine (k + 1) w (.list ds) := ⟨t.lay, Nat.succ_le_succ t.dep, t.wt, t.ish, t.sh, t.nd⟩
theorem ldl_dp {K : PySem.W.Frag} {H : Hp} {p t : Addr} {ns : List Int} {b : Bool} (h : IsB' K H p t ns b) (L : Ldl ns) (l : ns.length ≤ 48) : ∃ d, Fine 1 1008 d ∧ ∀ H', Same H H' → Dp K H' (.ref t) d := by
  have f := FineAll.ldl 0 L
  cases b with
  | true => exact ⟨.list (ns.map PyData.int), (FineAll.lst f).up (Nat.le_refl _) (by omega), fun H' s => .lst (h.same s).1 (nums_dps ns)⟩
  | false => exact ⟨.tuple (ns.map PyData.int), (FineAll.tup f).up (Nat.le_refl _) (by omega), fun H' s => .tup (h.same s).1 (nums_dps ns)⟩
theorem kts_dp {K : PySem.W.Frag} {H : Hp} {p : Addr} : ∀ (as : List Addr) (ks : List (Int × List Int)), as.length = ks.length → (∀ (j : Nat) (a : Addr) (k : Int × List Int), as[j]? = some a → ks[j]? = some k → KtAt K H p a k) → (∀ k ∈ ks, 0 ≤ k.1 ∧ k.1 ≤ 1000000 ∧ Ldl k.2 ∧ k.2.length ≤ 48) → ∃ ds, FineAll 2 (1100 * ks.length) ds ∧ ∀ H', Same H H' → DpAll K H' (as.map V.ref) ds
  | [], [], _, _, _ => ⟨[], FineAll.nil 2, fun _ _ => .nil⟩
  | a :: as, k :: ks, l, at_, ok => by
    obtain ⟨ds, f, dp⟩ := kts_dp as ks (by rw [List.length_cons, List.length_cons] at l; omega) (fun j a k e1 e2 => at_ (j + 1) a k e1 e2) fun k hk => ok k (List.mem_cons_of_mem _ hk)
    obtain ⟨t, b, h1, h2⟩ := (at_ 0 a k rfl rfl).ex
    obtain ⟨o1, o2, o3, o4⟩ := ok k List.mem_cons_self
    obtain ⟨dt, ft, dpt⟩ := ldl_dp h2 o3 o4
    have fk := FineAll.tup (FineAll.cons (Fine.ldl 1 o1 o2) (FineAll.cons ft (FineAll.nil 1)))
    have fa := FineAll.cons (fk.up (w' := 1099) (Nat.le_refl _) (by omega)) f
    refine ⟨.tuple [.int k.1, dt] :: ds, ?_, fun H' s => .cons (.tup (Same.tup s h1) (.cons (.int _) (.cons (dpt H' s) .nil))) (dp H' s)⟩
    have e : 1099 + 1 + 1100 * ks.length = 1100 * (k :: ks).length := by rw [List.length_cons]; omega
    rw [e] at fa
    exact fa
theorem DayAt.shows {K : PySem.W.Frag} {H : Hp} {p a : Addr} {x : DyP} {D : Dy} (h : DayAt K H p a x D) (O : DyOk D) (N : DyNn D) : ∃ d, Fine 4 20000 d ∧ ∀ H', Same H H' → Dp K H' (.ref a) d := by
  have h2 := O.h2
  have k2 := O.k2
  obtain ⟨dc, fc, dpc⟩ := ldl_dp h.cs N.cs h2
  obtain ⟨dss, fs, dps⟩ := ldl_dp h.ss N.ss (by rw [O.sl]; exact h2)
  obtain ⟨dk, fk, dpk⟩ := kts_dp x.as D.ks h.len h.kt fun k hk => ⟨by have := (N.ks k hk).1; omega, (N.ks k hk).2.1, (N.ks k hk).2.2, by rw [O.ts k hk]; exact h2⟩
  have mid : ∃ d2, Fine 3 (1100 * D.ks.length) d2 ∧ PyData.depth d2 ≤ 3 ∧ ∀ H', Same H H' → Dp K H' (.ref x.k) d2 := by
    have hk := h.ks
    cases e : x.pk with
    | true =>
      rw [e] at hk
      exact ⟨.list dk, FineAll.lst fk, (FineAll.lst fk).dep, fun H' s => .lst (Same.seq s hk) (dpk H' s)⟩
    | false =>
      rw [e] at hk
      exact ⟨.tuple dk, FineAll.tup fk, (FineAll.tup fk).dep, fun H' s => .tup (Same.tup s hk) (dpk H' s)⟩
  obtain ⟨d2, f2, _, dp2⟩ := mid
  refine ⟨.tuple [dc, d2, dss], ?_, fun H' s => .tup (Same.tup s h.at_) (.cons (dpc H' s) (.cons (dp2 H' s) (.cons (dps H' s) .nil)))⟩
  have f := FineAll.tup (FineAll.cons (fc.up (k' := 3) (by decide) (Nat.le_refl _)) (FineAll.cons f2 (FineAll.cons (fs.up (k' := 3) (by decide) (Nat.le_refl _)) (FineAll.nil 3))))
  exact f.up (Nat.le_refl _) (by omega)
/-- a plan as data -/
def planD (D : Dy) : PyData := .list ((List.range (D.ks.length + 1)).map fun j => din (rowI D j))
theorem nums_dk {K : PySem.W.Frag} {H : Hp} {r : Addr} {ns : List Int} (n : Nat) (h : H r = some (.lst (ns.map V.int))) (l : ns.length ≤ 100000) : Dk K H (n + 2) (.ref r) (din ns) :=
  .lst h (by rw [List.length_map, List.length_map]) (by rw [List.length_map]; exact l) fun i x d e1 e2 => by
    rw [List.getElem?_map] at e1 e2
    obtain ⟨z, ez, rfl⟩ := Option.map_eq_some_iff.mp e1
    rw [ez] at e2
    cases e2
    exact .int n z
theorem plan_dk {K : PySem.W.Frag} {H : Hp} {f : Addr} {rs : List Addr} {D : Dy} (O : DyOk D) (hf : H f = some (.lst (rs.map V.ref))) (lr : rs.length = D.ks.length + 1) (rows : ∀ (j : Nat) (r : Addr), rs[j]? = some r → H r = some (.lst ((rowI D j).map V.int))) : Dk K H 5 (.ref f) (planD D) := by
  have k2 := O.k2
  have h2 := O.h2
  refine .lst hf (by rw [List.length_map, List.length_map, List.length_range, lr]) (by rw [List.length_map]; omega) fun i x d e1 e2 => ?_
  rw [List.getElem?_map] at e1 e2
  obtain ⟨r, er, rfl⟩ := Option.map_eq_some_iff.mp e1
  obtain ⟨j, ej, rfl⟩ := Option.map_eq_some_iff.mp e2
  obtain ⟨hi, rfl⟩ := List.getElem?_eq_some_iff.mp ej
  rw [List.getElem_range]
  exact nums_dk 2 (rows i r er) (by rw [row_len]; omega)
/-- how many are struck in all -/
def mostD (D : Dy) : Int := tk D D.cs.length D.ks.length
end KR
/-! ### things of any make, and xs[a:c] = ys -/
namespace KR
open PySem PySem.Spec PyProof.Rows L2
/-- xs[a:c] = ys, ys another list -/
def gSlS (to tl th : TE) : TG := fun v σ H Q => to σ H fun x H1 => tl σ H1 fun a H2 => th σ H2 fun c H3 => ∃ (l b : Addr) (xs ys : List V) (i j : Int), x = .ref l ∧ v = .ref b ∧ a = .int i ∧ c = .int j ∧ H3 l = some (.lst xs) ∧ H3 b = some (.lst ys) ∧ l ≠ b ∧ 0 ≤ i ∧ i ≤ j ∧ j ≤ xs.length ∧ xs.length + ys.length ≤ sizeLine ∧ Q σ (upd H3 l (.lst (xs.take i.toNat ++ ys ++ xs.drop j.toNat)))
theorem pg_slS {X : Cx} {o lo hi : Expr} {to tl th : TE} {p2 pos : Pos} (ho : PE X o to) (hl : PE X lo tl) (hh : PE X hi th)
    (ha : ∀ v, assign (.Subscript o (.Slice (some lo) (some hi) none p2) pos) X.env v = (do
      let ov ← holding [v] (eval o X.env)
      let iv ← holding [v, ov] (eval (.Slice (some lo) (some hi) none p2) X.env)
      standAt pos
      holding [v, ov, iv] (setItem ov iv v)
      release [iv, v, ov] []) := by intro _; rfl) : PG X (.Subscript o (.Slice (some lo) (some hi) none p2) pos) (gSlS to tl th) := by
  refine ⟨fun pins s σ H v u Q I r h => ?_⟩
  rw [ha]
  refine wpAny_bind (wpAny_holding (thn (ho.run pins s σ H _ I h) fun ov s1 ⟨x, H1, I1, r1, q1⟩ => ?_))
  refine wpAny_bind (wpAny_holding ?_)
  refine wpAny_Slice ?_
  rw [evalPart_some]
  refine thn (hl.run pins s1 σ H1 _ I1 q1) fun vl s2 ⟨a, H2, I2, ra, q2⟩ => ?_
  rw [evalPart_some]
  refine thn (hh.run pins s2 σ H2 _ I2 q2) fun vu s3 ⟨c, H3, I3, rc, q3⟩ => ?_
  rw [evalPart_none]
  refine wpAny_pure ?_
  obtain ⟨l, b, xs, ys, i, j, rfl, rfl, rfl, rfl, hx, hb, ne, i0, ij, jl, z, q⟩ := q3
  have I4 : Inv X pins σ H3 { s3 with heap := s3.heap.push { cls := .type "slice", data := .fields #[vl, vu, .none] } } := I3.kept (t' := s3.toks) fun b ob q => Heap.get?_push_of_some _ q
  obtain rfl : ov = .ref l := r1
  obtain rfl : u = .ref b := r
  refine wpAny_bind (wpAny_standAt (wpAny_bind (wpAny_holding ?_)))
  refine set_slice I4 hx hb ne (Heap.IsSliceOf.new ..) ra rc i0 ij jl z fun s5 I5 => ?_
  exact wpAny_release ⟨σ, _, I5, q⟩
/-- things whose lists are none of ours to write: ints to a bound, truths, None, texts, rows of such -/
inductive Tg (K : PySem.W.Frag) (p : Addr → Prop) (H : Hp) (B : Nat) : Nat → V → PyData → Prop
  | non (n : Nat) : Tg K p H B n .non .none
  | bl (n : Nat) (b : Bool) : Tg K p H B n (.bl b) (.bool b)
  | int (n : Nat) (i : Int) (h : i.natAbs ≤ B) : Tg K p H B n (.int i) (.int i)
  | str (n : Nat) (x : Str) (w : Nat) (l : x.length ≤ 10) (c : ∀ c ∈ TL.tl x, c < 128) : Tg K p H B n (.str x) (.str x)
  | lst {n : Nat} {a : Addr} {xs : List V} {ds : List PyData} : H a = some (.lst xs) → ¬ p a → xs.length = ds.length → (∀ (i : Nat) (x : V) (d : PyData), xs[i]? = some x → ds[i]? = some d → Tg K p H B n x d) → Tg K p H B (n + 1) (.ref a) (.list ds)
  | tup {n : Nat} {a : Addr} {xs : List V} {ds : List PyData} : SqT K H a xs → xs.length = ds.length → (∀ (i : Nat) (x : V) (d : PyData), xs[i]? = some x → ds[i]? = some d → Tg K p H B n x d) → Tg K p H B (n + 1) (.ref a) (.tuple ds)
theorem Tg.same {K : PySem.W.Frag} {p : Addr → Prop} {B : Nat} {H H' : Hp} (s : Same H H') : ∀ {n : Nat} {v : V} {d : PyData}, Tg K p H B n v d → Tg K p H' B n v d := by
  intro n v d h
  induction h with
  | non n => exact .non n
  | bl n b => exact .bl n b
  | int n i h => exact .int n i h
  | str n x w l c => exact .str n x w l c
  | lst h1 h2 h3 _ ih => exact .lst (s _ _ h1) h2 h3 ih
  | tup h1 h2 _ ih => exact .tup (Same.tup s h1) h2 ih
theorem Tg.fr {K : PySem.W.Frag} {p : Addr → Prop} {q : Addr} (hq : p q) {B m : Nat} {H H' : Hp} (b : BoxAt H q m) (F : Fr q H H') : ∀ {n : Nat} {v : V} {d : PyData}, Tg K p H B n v d → Tg K p H' B n v d := by
  intro n v d h
  induction h with
  | non n => exact .non n
  | bl n b => exact .bl n b
  | int n i h => exact .int n i h
  | str n x w l c => exact .str n x w l c
  | lst h1 h2 h3 _ ih => exact .lst (F _ _ (fun z => h2 (z ▸ hq)) h1) h2 h3 ih
  | tup h1 h2 _ ih => exact .tup (sqT_fr h1 b F) h2 ih
theorem Tg.up {K : PySem.W.Frag} {p : Addr → Prop} {B B' : Nat} {H : Hp} (hB : B ≤ B') : ∀ {n : Nat} {v : V} {d : PyData}, Tg K p H B n v d → ∀ {m : Nat}, n ≤ m → Tg K p H B' m v d := by
  intro n v d h
  induction h with
  | non n => exact fun _ => .non _
  | bl n b => exact fun _ => .bl _ b
  | int n i h => exact fun _ => .int _ i (Nat.le_trans h hB)
  | str n x w l c => exact fun _ => .str _ x w l c
  | lst h1 h2 h3 _ ih =>
    intro m le
    obtain ⟨k, rfl⟩ : ∃ k, m = k + 1 := ⟨m - 1, by omega⟩
    exact .lst h1 h2 h3 fun i x d a b => ih i x d a b (by omega)
  | tup h1 h2 _ ih =>
    intro m le
    obtain ⟨k, rfl⟩ : ∃ k, m = k + 1 := ⟨m - 1, by omega⟩
    exact .tup h1 h2 fun i x d a b => ih i x d a b (by omega)
theorem Tg.dp {K : PySem.W.Frag} {p : Addr → Prop} {B : Nat} {H : Hp} {n : Nat} {v : V} {d : PyData} (h : Tg K p H B n v d) : Dp K H v d := by
  induction h with
  | non n => exact .non
  | bl n b => exact .bl b
  | int n i h => exact .int i
  | str n x w l c => exact .str x
  | lst h1 h2 h3 _ ih => exact .lst (SqL.of h1) (dps_of h3 ih)
  | tup h1 h2 _ ih => exact .tup h1 (dps_of h2 ih)
/-- how much there is to a thing -/
theorem Tg.fine {K : PySem.W.Frag} {p : Addr → Prop} {B : Nat} {H : Hp} (b12 : B < 10 ^ 12) {n : Nat} {v : V} {d : PyData} (h : Tg K p H B n v d) : ∃ w, Fine n w d := by
  have many : ∀ {n : Nat} {xs : List V} {ds : List PyData}, xs.length = ds.length → (∀ (i : Nat) (x : V) (d : PyData), xs[i]? = some x → ds[i]? = some d → ∃ w, Fine n w d) → ∃ w, FineAll n w ds := fun {n} => by
    intro xs
    induction xs with
    | nil =>
      intro ds l _
      cases ds with
      | nil => exact ⟨0, FineAll.nil n⟩
      | cons d ds => cases l
    | cons x xs ih =>
      intro ds l at_
      cases ds with
      | nil => cases l
      | cons d ds =>
        obtain ⟨w1, f1⟩ := at_ 0 x d rfl rfl
        obtain ⟨w2, f2⟩ := ih (by rw [List.length_cons, List.length_cons] at l; omega) fun i x d e1 e2 => at_ (i + 1) x d e1 e2
        exact ⟨_, FineAll.cons f1 f2⟩
  induction h with
  | non n => exact ⟨0, Fine.non n⟩
  | bl n b => exact ⟨0, ⟨rfl, Nat.zero_le _, Nat.le_refl _, rfl, rfl, rfl⟩⟩
  | int n i h =>
    have z : i.natAbs < 10 ^ 12 := by omega
    have e : (10 : Nat) ^ 12 < 2 ^ 40 := by decide
    refine ⟨PyData.weight (.int i), ⟨rfl, Nat.zero_le _, Nat.le_refl _, decide_eq_true (PyData.shown_int_le z), decide_eq_true ?_, rfl⟩⟩
    by_cases c : i.natAbs = 0
    · rw [c]
      decide
    · have := (Nat.log2_lt c).mpr (Nat.lt_trans z e)
      omega
  | str n x w l c => exact ⟨10, Fine.str n l c⟩
  | lst h1 h2 h3 _ ih =>
    obtain ⟨w, f⟩ := many h3 ih
    exact ⟨w, FineAll.lst f⟩
  | tup h1 h2 _ ih =>
    obtain ⟨w, f⟩ := many h2 ih
    exact ⟨w, FineAll.tup f⟩
/-- rows of things -/
def TgAll (K : PySem.W.Frag) (p : Addr → Prop) (H : Hp) (B n : Nat) (xs : List V) (ds : List PyData) : Prop := xs.length = ds.length ∧ ∀ (i : Nat) (x : V) (d : PyData), xs[i]? = some x → ds[i]? = some d → Tg K p H B n x d
theorem TgAll.nil {K : PySem.W.Frag} {p : Addr → Prop} {H : Hp} {B n : Nat} : TgAll K p H B n [] [] := ⟨rfl, fun i x d h => by simp at h⟩
theorem TgAll.cons {K : PySem.W.Frag} {p : Addr → Prop} {H : Hp} {B n : Nat} {x : V} {d : PyData} {xs : List V} {ds : List PyData} (h : Tg K p H B n x d) (t : TgAll K p H B n xs ds) : TgAll K p H B n (x :: xs) (d :: ds) :=
  ⟨by rw [List.length_cons, List.length_cons, t.1], fun i u v hu hv => match i, hu, hv with
    | 0, hu, hv => by cases hu; cases hv; exact h
    | i + 1, hu, hv => t.2 i u v hu hv⟩
theorem TgAll.tail {K : PySem.W.Frag} {p : Addr → Prop} {H : Hp} {B n : Nat} {x : V} {d : PyData} {xs : List V} {ds : List PyData} (t : TgAll K p H B n (x :: xs) (d :: ds)) : Tg K p H B n x d ∧ TgAll K p H B n xs ds :=
  ⟨t.2 0 x d rfl rfl, by have := t.1; rw [List.length_cons, List.length_cons] at this; omega, fun i u v hu hv => t.2 (i + 1) u v hu hv⟩
theorem TgAll.app {K : PySem.W.Frag} {p : Addr → Prop} {H : Hp} {B n : Nat} : ∀ {xs : List V} {ds : List PyData} {ys : List V} {es : List PyData}, TgAll K p H B n xs ds → TgAll K p H B n ys es → TgAll K p H B n (xs ++ ys) (ds ++ es)
  | [], [], _, _, _, h => h
  | [], _ :: _, _, _, h, _ => by have := h.1; cases this
  | _ :: _, [], _, _, h, _ => by have := h.1; cases this
  | _ :: _, _ :: _, _, _, h, h' => .cons h.tail.1 (TgAll.app h.tail.2 h')
theorem TgAll.take {K : PySem.W.Frag} {p : Addr → Prop} {H : Hp} {B n : Nat} {xs : List V} {ds : List PyData} (h : TgAll K p H B n xs ds) (k : Nat) : TgAll K p H B n (xs.take k) (ds.take k) :=
  ⟨by rw [List.length_take, List.length_take, h.1], fun i x d e1 e2 => by
    rw [List.getElem?_take] at e1 e2
    split at e1
    · rename_i c
      rw [if_pos c] at e2
      exact h.2 i x d e1 e2
    · cases e1⟩
theorem TgAll.drop {K : PySem.W.Frag} {p : Addr → Prop} {H : Hp} {B n : Nat} {xs : List V} {ds : List PyData} (h : TgAll K p H B n xs ds) (k : Nat) : TgAll K p H B n (xs.drop k) (ds.drop k) :=
  ⟨by rw [List.length_drop, List.length_drop, h.1], fun i x d e1 e2 => by
    rw [List.getElem?_drop] at e1 e2
    exact h.2 _ x d e1 e2⟩
theorem TgAll.rev {K : PySem.W.Frag} {p : Addr → Prop} {H : Hp} {B n : Nat} : ∀ {xs : List V} {ds : List PyData}, TgAll K p H B n xs ds → TgAll K p H B n xs.reverse ds.reverse
  | [], [], _ => .nil
  | [], _ :: _, h => by have := h.1; cases this
  | _ :: _, [], h => by have := h.1; cases this
  | _ :: _, _ :: _, h => by
    rw [List.reverse_cons, List.reverse_cons]
    exact TgAll.app (TgAll.rev h.tail.2) (.cons h.tail.1 .nil)
theorem TgAll.same {K : PySem.W.Frag} {p : Addr → Prop} {H H' : Hp} {B n : Nat} {xs : List V} {ds : List PyData} (h : TgAll K p H B n xs ds) (s : Same H H') : TgAll K p H' B n xs ds := ⟨h.1, fun i x d e1 e2 => (h.2 i x d e1 e2).same s⟩
theorem TgAll.fr {K : PySem.W.Frag} {p : Addr → Prop} {H H' : Hp} {B n m : Nat} {xs : List V} {ds : List PyData} {q : Addr} (hq : p q) (h : TgAll K p H B n xs ds) (b : BoxAt H q m) (F : Fr q H H') : TgAll K p H' B n xs ds := ⟨h.1, fun i x d e1 e2 => (h.2 i x d e1 e2).fr hq b F⟩
theorem TgAll.up {K : PySem.W.Frag} {p : Addr → Prop} {H : Hp} {B B' n m : Nat} {xs : List V} {ds : List PyData} (h : TgAll K p H B n xs ds) (hB : B ≤ B') (le : n ≤ m) : TgAll K p H B' m xs ds := ⟨h.1, fun i x d e1 e2 => (h.2 i x d e1 e2).up hB le⟩
/-- numbers and truths as numbers -/
def numOf : V → Option Int
  | .int i => some i
  | .bl b => some (if b = true then 1 else 0)
  | _ => none
def rNb (f : Int → Int → Int) : R2 := fun x y H Q => ∃ i j, numOf x = some i ∧ y = .int j ∧ Q (.int (f i j)) H
theorem op_addNb {X : Cx} : OpR X (binaryOp .Add) (rNb fun i j => i + j) := by
  intro pins s σ H x y v u Q I rx ry ⟨i, j, e, e2, q⟩
  cases x <;> try (cases e; done)
  case bl b =>
    cases e
    subst e2
    obtain ⟨t, rfl⟩ := ry
    cases rx
    exact PySem.IntBool.add_bool_int ⟨.int _, H, I.tok _, ⟨_, rfl⟩, q⟩
  case int i => cases e; exact op_add pins s σ H _ y v u Q I rx ry ⟨_, j, rfl, e2, q⟩
theorem op_subNb {X : Cx} : OpR X (binaryOp .Sub) (rNb fun i j => i - j) := by
  intro pins s σ H x y v u Q I rx ry ⟨i, j, e, e2, q⟩
  cases x <;> try (cases e; done)
  case bl b =>
    cases e
    subst e2
    obtain ⟨t, rfl⟩ := ry
    cases rx
    exact PySem.IntBool.sub_bool_int ⟨.int _, H, I.tok _, ⟨_, rfl⟩, q⟩
  case int i => cases e; exact op_sub pins s σ H _ y v u Q I rx ry ⟨_, j, rfl, e2, q⟩
/-- how a thing looks: a leaf, or a row -/
theorem Tg.look {K : PySem.W.Frag} {p : Addr → Prop} {q : Addr} (hq : p q) {B : Nat} {H : Hp} {n : Nat} {v : V} {d : PyData} (hB : 1 ≤ B) (h : Tg K p H B n v d) :
    (∃ (t : String) (bi : Bool), (∀ H2, TyX K H2 v (.type t)) ∧ kitB t "list" = some false ∧ kitB t "tuple" = some false ∧ kitB t "int" = some bi ∧ (bi = true → (∃ i, numOf v = some i ∧ i.natAbs ≤ B) ∧ SeqAt.shaped d = true)) ∨
    (∃ (t : String) (bl bt : Bool) (a : Addr) (xs : List V) (ds : List PyData) (m : Nat), v = .ref a ∧ n = m + 1 ∧ (∀ (H' : Hp) (mm : Nat), BoxAt H q mm → Fr q H H' → TyX K H' v (.type t)) ∧ kitB t "list" = some bl ∧ kitB t "tuple" = some bt ∧ (bl = false → bt = true) ∧ (SqL K H a xs ∨ SqT K H a xs) ∧ TgAll K p H B m xs ds ∧ PyData.weight d = PyData.weightAll ds) := by
  cases h with
  | non n => exact .inl ⟨"NoneType", false, fun _ => .base .non, by decide +kernel, by decide +kernel, by decide +kernel, fun z => nomatch z⟩
  | bl n b => exact .inl ⟨"bool", true, fun _ => .base (.bl b), by decide +kernel, by decide +kernel, by decide +kernel, fun _ => ⟨⟨_, rfl, by cases b <;> simp <;> omega⟩, rfl⟩⟩
  | int n i h => exact .inl ⟨"int", true, fun _ => .base (.int i), by decide +kernel, by decide +kernel, by decide +kernel, fun _ => ⟨⟨_, rfl, h⟩, rfl⟩⟩
  | str n x w l c => exact .inl ⟨"str", false, fun _ => .base (.str x), by decide +kernel, by decide +kernel, by decide +kernel, fun z => nomatch z⟩
  | lst h1 h2 h3 h4 => exact .inr ⟨"list", true, false, _, _, _, _, rfl, rfl, fun H' mm b F => .base (.lst (F _ _ (fun z => h2 (z ▸ hq)) h1)), by decide +kernel, by decide +kernel, (fun z => nomatch z), .inl (SqL.of h1), ⟨h3, h4⟩, rfl⟩
  | tup h1 h2 h3 => exact .inr ⟨"tuple", false, true, _, _, _, _, rfl, rfl, fun H' mm b F => sqT_ty (sqT_fr h1 b F), by decide +kernel, by decide +kernel, fun _ => rfl, .inr h1, ⟨h2, h3⟩, rfl⟩
theorem wt_int {i : Int} (h : i.natAbs < 2 ^ 21) : PyData.weight (.int i) ≤ 21 := by
  show (if i == 0 then 0 else i.natAbs.log2 + 1) ≤ 21
  by_cases c : i = 0
  · rw [c]
    decide
  · rw [if_neg (by simpa using c)]
    have := (Nat.log2_lt (show i.natAbs ≠ 0 by omega)).mpr h
    omega
theorem TgAll.at_ {K : PySem.W.Frag} {p : Addr → Prop} {H : Hp} {B n : Nat} {xs : List V} {ds : List PyData} (h : TgAll K p H B n xs ds) {i : Nat} (lt : i < xs.length) : ∃ x d, xs[i]? = some x ∧ ds[i]? = some d ∧ Tg K p H B n x d := by
  have l2 : i < ds.length := by rw [← h.1]; exact lt
  exact ⟨xs[i], ds[i], List.getElem?_eq_getElem lt, List.getElem?_eq_getElem l2, h.2 i _ _ (List.getElem?_eq_getElem lt) (List.getElem?_eq_getElem l2)⟩
theorem wa_app : ∀ (a b : List PyData), PyData.weightAll (a ++ b) = PyData.weightAll a + PyData.weightAll b
  | [], b => by rw [List.nil_append]; show _ = 0 + _; omega
  | x :: a, b => by
    show PyData.weight x + 1 + PyData.weightAll (a ++ b) = (PyData.weight x + 1 + PyData.weightAll a) + _
    rw [wa_app a b]
    omega
theorem wa_cut (a : List PyData) (k : Nat) : PyData.weightAll (a.take k) + PyData.weightAll (a.drop k) = PyData.weightAll a := by
  rw [← wa_app, List.take_append_drop]
theorem wa_rev : ∀ (a : List PyData), PyData.weightAll a.reverse = PyData.weightAll a
  | [] => rfl
  | x :: a => by
    rw [List.reverse_cons, wa_app, wa_rev a]
    show _ + (PyData.weight x + 1 + 0) = PyData.weight x + 1 + _
    omega
theorem wa_at {a : List PyData} {k : Nat} {d : PyData} (h : a[k]? = some d) : PyData.weightAll (a.take k) + (PyData.weight d + 1) + PyData.weightAll (a.drop (k + 1)) = PyData.weightAll a := by
  obtain ⟨lt, e⟩ := List.getElem?_eq_some_iff.mp h
  have h1 := wa_cut a k
  rw [List.drop_eq_getElem_cons lt, e] at h1
  have h2 : PyData.weightAll (d :: a.drop (k + 1)) = PyData.weight d + 1 + PyData.weightAll (a.drop (k + 1)) := rfl
  rw [h2] at h1
  omega
theorem TgAll.set {K : PySem.W.Frag} {p : Addr → Prop} {H : Hp} {B n : Nat} {xs : List V} {ds : List PyData} (h : TgAll K p H B n xs ds) {k : Nat} {x : V} {d : PyData} (hx : Tg K p H B n x d) : TgAll K p H B n (xs.set k x) (ds.set k d) := by
  refine ⟨by rw [List.length_set, List.length_set]; exact h.1, fun i y e e1 e2 => ?_⟩
  rw [List.getElem?_set] at e1 e2
  by_cases c : k = i
  · subst c
    rw [if_pos rfl] at e1 e2
    split at e1
    · cases e1
      split at e2
      · cases e2
        exact hx
      · cases e2
    · cases e1
  · rw [if_neg c] at e1 e2
    exact h.2 i y e e1 e2
theorem wa_set {a : List PyData} {k : Nat} {d e : PyData} (h : a[k]? = some d) : PyData.weightAll (a.set k e) + PyData.weight d = PyData.weightAll a + PyData.weight e := by
  obtain ⟨lt, _⟩ := List.getElem?_eq_some_iff.mp h
  have h1 := wa_at h
  rw [List.set_eq_take_append_cons_drop, if_pos lt, wa_app]
  have h2 : PyData.weightAll (e :: a.drop (k + 1)) = PyData.weight e + 1 + PyData.weightAll (a.drop (k + 1)) := rfl
  rw [h2]
  omega
/-- a row of things whose list is written anew -/
theorem TgAll.put {K : PySem.W.Frag} {p : Addr → Prop} {H0 H : Hp} {B n : Nat} {xs ys : List V} {ds : List PyData} {r : Addr} (h : TgAll K p H0 B n xs ds) (s : Same H0 H) (nr : H0 r = none) : TgAll K p (upd H r (.lst ys)) B n xs ds := h.same (Same.put s nr)
/-- a part of a row of things -/
theorem TgAll.cut {K : PySem.W.Frag} {p : Addr → Prop} {H : Hp} {B n : Nat} {xs : List V} {ds : List PyData} (h : TgAll K p H B n xs ds) (lo hi : Option Int) : ∃ es, TgAll K p H B n (cutV xs lo hi) es ∧ PyData.weightAll es ≤ PyData.weightAll ds := by
  unfold cutV
  refine ⟨_, (h.drop _).take _, ?_⟩
  have h1 := wa_cut (ds.drop (HT.sIx xs.length 0 lo)) (HT.sIx xs.length xs.length hi - HT.sIx xs.length 0 lo)
  have h2 := wa_cut ds (HT.sIx xs.length 0 lo)
  omega
theorem wa_len : ∀ l : List PyData, l.length ≤ PyData.weightAll l
  | [] => Nat.le_refl _
  | y :: l => by
    have := wa_len l
    show l.length + 1 ≤ PyData.weight y + 1 + PyData.weightAll l
    omega
/-- things that avoid more -/
theorem Tg.avoid {K : PySem.W.Frag} {p : Addr → Prop} {r : Addr} {B : Nat} {H0 : Hp} (s : H0 r = none) : ∀ {n : Nat} {v : V} {d : PyData}, Tg K p H0 B n v d → Tg K (fun a => p a ∨ a = r) H0 B n v d := by
  intro n v d h
  induction h with
  | non n => exact .non n
  | bl n b => exact .bl n b
  | int n i h => exact .int n i h
  | str n x w l c => exact .str n x w l c
  | lst h1 h2 h3 _ ih => exact .lst h1 (fun z => z.elim h2 (ne_of_none h1 s)) h3 ih
  | tup h1 h2 _ ih => exact .tup h1 h2 ih
theorem Tg.less {K : PySem.W.Frag} {p p' : Addr → Prop} (le : ∀ a, p' a → p a) {B : Nat} {H : Hp} : ∀ {n : Nat} {v : V} {d : PyData}, Tg K p H B n v d → Tg K p' H B n v d := by
  intro n v d h
  induction h with
  | non n => exact .non n
  | bl n b => exact .bl n b
  | int n i h => exact .int n i h
  | str n x w l c => exact .str n x w l c
  | lst h1 h2 h3 _ ih => exact .lst h1 (fun z => h2 (le _ z)) h3 ih
  | tup h1 h2 _ ih => exact .tup h1 h2 ih
/-- a list that things avoid is written -/
theorem Tg.wr {K : PySem.W.Frag} {p : Addr → Prop} {r : Addr} (hr : p r) {B : Nat} {H : Hp} {xs ys : List V} (h0 : H r = some (.lst xs)) : ∀ {n : Nat} {v : V} {d : PyData}, Tg K p H B n v d → Tg K p (upd H r (.lst ys)) B n v d := by
  intro n v d h
  induction h with
  | non n => exact .non n
  | bl n b => exact .bl n b
  | int n i h => exact .int n i h
  | str n x w l c => exact .str n x w l c
  | lst h1 h2 h3 _ ih => exact .lst ((upd_ne (fun z => h2 (by rw [z]; exact hr))).trans h1) h2 h3 ih
  | tup h1 h2 _ ih => exact .tup (sqT_frL h1 h0 fr_upd) h2 ih
theorem TgAll.wr {K : PySem.W.Frag} {p : Addr → Prop} {r : Addr} (hr : p r) {B n : Nat} {H : Hp} {xs ys : List V} (h0 : H r = some (.lst xs)) {zs : List V} {ds : List PyData} (h : TgAll K p H B n zs ds) : TgAll K p (upd H r (.lst ys)) B n zs ds := ⟨h.1, fun i x d e1 e2 => (h.2 i x d e1 e2).wr hr h0⟩
theorem TgAll.less {K : PySem.W.Frag} {p p' : Addr → Prop} (le : ∀ a, p' a → p a) {B n : Nat} {H : Hp} {zs : List V} {ds : List PyData} (h : TgAll K p H B n zs ds) : TgAll K p' H B n zs ds := ⟨h.1, fun i x d e1 e2 => (h.2 i x d e1 e2).less le⟩
end KR
/-! ### what a thing of any make is -/
namespace KR
open PySem PySem.Spec PyProof.Rows L2
def isL : PyData → Bool
  | .list _ => true
  | _ => false
def isT : PyData → Bool
  | .tuple _ => true
  | _ => false
def isS : PyData → Bool
  | .str _ => true
  | _ => false
def isI : PyData → Bool
  | .int _ => true
  | _ => false
def isBo : PyData → Bool
  | .bool _ => true
  | _ => false
theorem Tg.ty {K : PySem.W.Frag} {p : Addr → Prop} {H : Hp} {B n : Nat} {v : V} {d : PyData} (h : Tg K p H B n v d) : ∃ t : String, TyX K H v (.type t) ∧ kitB t "list" = some (isL d) ∧ kitB t "tuple" = some (isT d) ∧ kitB t "int" = some (isI d || isBo d) ∧ kitB t "bool" = some (isBo d) ∧ kitB t "str" = some (isS d) := by
  cases h with
  | non n => exact ⟨"NoneType", .base .non, by show kitB "NoneType" "list" = some false; decide +kernel, by show kitB "NoneType" "tuple" = some false; decide +kernel, by show kitB "NoneType" "int" = some false; decide +kernel, by show kitB "NoneType" "bool" = some false; decide +kernel, by show kitB "NoneType" "str" = some false; decide +kernel⟩
  | bl n b => exact ⟨"bool", .base (.bl b), by show kitB "bool" "list" = some false; decide +kernel, by show kitB "bool" "tuple" = some false; decide +kernel, by show kitB "bool" "int" = some true; decide +kernel, by show kitB "bool" "bool" = some true; decide +kernel, by show kitB "bool" "str" = some false; decide +kernel⟩
  | int n i h => exact ⟨"int", .base (.int i), by show kitB "int" "list" = some false; decide +kernel, by show kitB "int" "tuple" = some false; decide +kernel, by show kitB "int" "int" = some true; decide +kernel, by show kitB "int" "bool" = some false; decide +kernel, by show kitB "int" "str" = some false; decide +kernel⟩
  | str n x w l c => exact ⟨"str", .base (.str x), by show kitB "str" "list" = some false; decide +kernel, by show kitB "str" "tuple" = some false; decide +kernel, by show kitB "str" "int" = some false; decide +kernel, by show kitB "str" "bool" = some false; decide +kernel, by show kitB "str" "str" = some true; decide +kernel⟩
  | lst h1 h2 h3 h4 => exact ⟨"list", .base (.lst h1), by show kitB "list" "list" = some true; decide +kernel, by show kitB "list" "tuple" = some false; decide +kernel, by show kitB "list" "int" = some false; decide +kernel, by show kitB "list" "bool" = some false; decide +kernel, by show kitB "list" "str" = some false; decide +kernel⟩
  | tup h1 h2 h3 => exact ⟨"tuple", sqT_ty h1, by show kitB "tuple" "list" = some false; decide +kernel, by show kitB "tuple" "tuple" = some true; decide +kernel, by show kitB "tuple" "int" = some false; decide +kernel, by show kitB "tuple" "bool" = some false; decide +kernel, by show kitB "tuple" "str" = some false; decide +kernel⟩
theorem Tg.tupI {K : PySem.W.Frag} {p : Addr → Prop} {H : Hp} {B n : Nat} {v : V} {d : PyData} (h : Tg K p H B n v d) (e : isT d = true) : ∃ (a : Addr) (xs : List V) (ds : List PyData) (m : Nat), v = .ref a ∧ d = .tuple ds ∧ n = m + 1 ∧ SqT K H a xs ∧ TgAll K p H B m xs ds := by
  cases h <;> try (cases e; done)
  case tup h1 h2 h3 => exact ⟨_, _, _, _, rfl, rfl, rfl, h1, h2, h3⟩
theorem Tg.lstI {K : PySem.W.Frag} {p : Addr → Prop} {H : Hp} {B n : Nat} {v : V} {d : PyData} (h : Tg K p H B n v d) (e : isL d = true) : ∃ (a : Addr) (xs : List V) (ds : List PyData) (m : Nat), v = .ref a ∧ d = .list ds ∧ n = m + 1 ∧ H a = some (.lst xs) ∧ TgAll K p H B m xs ds := by
  cases h <;> try (cases e; done)
  case lst h1 h2 h3 h4 => exact ⟨_, _, _, _, rfl, rfl, rfl, h1, h3, h4⟩
theorem Tg.intI {K : PySem.W.Frag} {p : Addr → Prop} {H : Hp} {B n : Nat} {v : V} {d : PyData} (h : Tg K p H B n v d) (e : isI d = true) : ∃ i : Int, v = .int i ∧ d = .int i ∧ i.natAbs ≤ B := by
  cases h <;> try (cases e; done)
  case int i h => exact ⟨i, rfl, rfl, h⟩
theorem Tg.strI {K : PySem.W.Frag} {p : Addr → Prop} {H : Hp} {B n : Nat} {v : V} {d : PyData} (h : Tg K p H B n v d) (e : isS d = true) : ∃ x : Str, v = .str x ∧ d = .str x := by
  cases h <;> try (cases e; done)
  case str x _ l c => exact ⟨x, rfl, rfl⟩
theorem boI {d : PyData} (h : isBo d = true) : isI d = false := by
  cases d <;> first | rfl | exact nomatch h
theorem TgAll.l {K : PySem.W.Frag} {p : Addr → Prop} {H : Hp} {B n : Nat} {a : Addr} {xs : List V} {ds : List PyData} (t : TgAll K p H B n xs ds) (h : H a = some (.lst xs)) (na : ¬ p a) : Tg K p H B (n + 1) (.ref a) (.list ds) := .lst h na t.1 t.2
theorem TgAll.t {K : PySem.W.Frag} {p : Addr → Prop} {H : Hp} {B n : Nat} {a : Addr} {xs : List V} {ds : List PyData} (t : TgAll K p H B n xs ds) (h : SqT K H a xs) : Tg K p H B (n + 1) (.ref a) (.tuple ds) := .tup h t.1 t.2
theorem Tg.show_ {K : PySem.W.Frag} {p : Addr → Prop} {H : Hp} {B n w : Nat} (b12 : B < 10 ^ 12) {v : V} {d : PyData} (h : Tg K p H B n v d) (le : PyData.weight d ≤ w) : Fine n w d := by
  obtain ⟨w', f⟩ := h.fine b12
  exact ⟨f.lay, f.dep, le, f.ish, f.sh, f.nd⟩
end KR
/-! ### str of any such data -/
namespace KR
open PySem PySem.Spec PyProof.Rows L2
def strD : PyData → Str
  | .str x => x
  | d => d.shown
def rStrV (K : PySem.W.Frag) : List V → Hp → VK → Prop := fun xs H Q => ∃ (v : V) (d : PyData), xs = [v] ∧ Dp K H v d ∧ (isS d = true ∨ ∃ k w : Nat, Fine k w d ∧ k ≤ 60 ∧ w ≤ 100000) ∧ Q (.str (strD d)) H
theorem strD_small {K : PySem.W.Frag} {p : Addr → Prop} {H : Hp} {B n : Nat} {v : V} {d : PyData} (h : Tg K p H B n v d) (hB : B < 10 ^ 7) (nl : isL d = false) (nt : isT d = false) : (strD d).length ≤ 10 ∧ ∀ c ∈ TL.tl (strD d), c < 128 := by
  cases h with
  | non n => exact ⟨by decide +kernel, by decide +kernel⟩
  | bl n b => cases b <;> exact ⟨by decide +kernel, by decide +kernel⟩
  | int n i h =>
    refine ⟨?_, fun c hc => ?_⟩
    · show (PyData.int i).shown.length ≤ 10
      rw [PyData.shown_int]
      have e := int_text_length_le10 (a := i) (k := 7) (by decide) (by omega)
      show (Str.ofString (toString i)).length ≤ 10
      rw [PySem.ofString_length]
      omega
    · exact Nat.lt_of_not_le fun z => shown_int_free' (k := c) ⟨by omega, .inr (by omega)⟩ i hc
  | str n x w l c => exact ⟨l, c⟩
  | lst h1 h2 h3 h4 => exact nomatch nl
  | tup h1 h2 h3 => exact nomatch nt
/-- xs[a:c] = ys, c beyond the end too -/
theorem boundsC {a c n : Nat} (ha : a ≤ n) : sliceBounds (some (a : Int)) (some (c : Int)) none n = ((a : Int), ((min c n : Nat) : Int), 1) := by
  obtain ⟨e1, e2, e3⟩ := L2.slice_bounds (some (a : Int)) (some (c : Int)) n
  have s1 : HT.sIx n 0 (some (a : Int)) = a := by show (if (a : Int) < 0 then ((a : Int) + (n : Int)).toNat else min (a : Int).toNat n) = a; rw [if_neg (by omega)]; omega
  have s2 : HT.sIx n n (some (c : Int)) = min c n := by show (if (c : Int) < 0 then ((c : Int) + (n : Int)).toNat else min (c : Int).toNat n) = min c n; rw [if_neg (by omega)]; omega
  rw [s1] at e1
  rw [s2] at e2
  exact Prod.ext e1 (Prod.ext e2 e3)
theorem put_sliceC {X : Cx} {pins : List (Addr × Obj)} {s : Shared} {σ : L2.St} {H : Hp} {l b sl : Addr} {xs ys : List V} {a c : Nat} {vl vu : Value} {Q : Unit → Shared → Prop} (I : Inv X pins σ H s)
    (hH : H l = some (.lst xs)) (hB : H b = some (.lst ys)) (ne : l ≠ b) (hs : s.heap.IsSliceOf sl vl vu .none) (ra : RelV (.int a) vl) (rc : RelV (.int c) vu) (hac : a ≤ c) (ha : a ≤ xs.length)
    (hz : xs.length + ys.length ≤ sizeLine) (h : ∀ s', Inv X pins σ (upd H l (.lst (xs.take a ++ ys ++ xs.drop c))) s' → Q () s') :
    wpAny (model X.prog X.w) X.A (setItem (.ref l) (.ref sl) (.ref b)) Q X.xe s := by
  obtain ⟨ta, rfl⟩ := ra
  obtain ⟨tc, rfl⟩ := rc
  obtain ⟨z1, us, m1, r1, l1, g1⟩ := I.lstM hH
  obtain ⟨z2, ws, m2, r2, l2, g2⟩ := I.lstM hB
  have n1 : us.toArray.size = xs.length := by rw [List.size_toArray]; exact l1.symm
  have fit : us.toArray.size + ws.toArray.size ≤ sizeLine := by rw [List.size_toArray, List.size_toArray]; omega
  have isl := PySem.IsL.isList g1
  have isb := PySem.IsL.isList g2
  obtain ⟨so, gs, cs, ds⟩ := id hs
  have other : Builtin.List.listSameRef (.ref l) (.ref b) = false := beq_eq_false_iff_ne.mpr ne
  have top : (max (a : Int) ((min c us.toArray.size : Nat) : Int)).toNat = min c us.toArray.size := by omega
  have size' : ((fun q : Array Value => q.extract 0 a ++ ws.toArray ++ q.extract (min c us.toArray.size) q.size) us.toArray).size ≤ sizeLine + 1 := by
    simp only [Array.size_append, Array.size_extract]
    omega
  have back : Inv X pins σ (upd H l (.lst (xs.take a ++ ys ++ xs.drop c))) { s with heap := s.heap.update l (Obj.mapSeq fun q => q.extract 0 a ++ ws.toArray ++ q.extract (min c us.toArray.size) q.size) } := by
    refine I.lset (its' := us.take a ++ ws ++ us.drop c) (t' := s.toks) hH g1 ?_ (Vals.append (Vals.append (r1.take _) r2) (r1.drop _)) ?_
    · rw [show us.drop c = us.drop (min c us.toArray.size) by
        by_cases q : c ≤ us.length
        · rw [List.size_toArray, Nat.min_eq_left q]
        · rw [List.size_toArray, Nat.min_eq_right (by omega), List.drop_of_length_le (by omega), List.drop_of_length_le (Nat.le_refl _)]]
      exact L2.splice_eq us ws a _
    · rw [List.length_append, List.length_append, List.length_take, List.length_drop]
      omega
  unfold setItem
  refine wpAny_holding (wpAny_bind (wpAny_sequenceKey isl.typeIs (by decide) ?_))
  refine wpAny_bind (wpAny_callSpecial?_slot (name := Str.ofString "__setitem__") isl.typeIs PySem.slot_list_setitem
    (wpAny_call_entry PySem.slot_list_setitem isl.typeIs PySem.entry_list_setitem ?_ (PySem.args_list_setitem _ _ _)))
  show wpAny _ _ (Builtin.List.listSubscript? (.ref sl) >>= _) _ _ s
  refine wpAny_bind ?_
  unfold Builtin.List.listSubscript?
  refine wpAny_bind (wpAny_specialOf ⟨so, gs, cs⟩ PySem.slice_no_index ?_)
  simp only [Option.isNone_none, if_true]
  refine wpAny_pure ?_
  show wpAny _ _ (typeOf (.ref sl) >>= _) _ _ s
  refine wpAny_bind (wpAny_typeOf ⟨so, gs, cs⟩ ?_)
  rw [if_neg (by decide), listSliceParts_eq]
  refine wpAny_bind (wpAny_bind (wpAny_field gs ds (x := .none) rfl (wpAny_bind (wpAny_listPart .none ?_))))
  rw [if_neg (show ¬ ((rawPart none == rawInt 0) = true) from Bool.false_ne_true)]
  refine wpAny_bind (wpAny_field gs ds rfl (wpAny_bind (wpAny_listPart (.int _ _) ?_)))
  refine wpAny_bind (wpAny_field gs ds rfl (wpAny_bind (wpAny_listPart (.int _ _) (wpAny_pure ?_))))
  rw [other]
  refine wpAny_bind (m := Builtin.List.listAllItems (.ref b) "must assign iterable to extended slice") ?_
  unfold Builtin.List.listAllItems
  refine wpAny_bind (wpAny_typeOf isb.typeIs ?_)
  rw [if_pos (by decide)]
  unfold Builtin.List.listItems
  refine wpAny_bind (wpAny_seqItems g2 rfl (wpAny_pure ?_))
  refine wpAny_bind (wpAny_bind (wpAny_seqItems g1 rfl (wpAny_pure ?_)))
  refine wpAny_bind (wpAny_of_eq ((sliceIndices_raw (some (a : Int)) (some (c : Int)) none us.toArray.size (by simp)).trans (congrArg (pure : Int × Int × Int → Sem (Int × Int × Int)) (boundsC (by omega)))) ?_)
  show wpAny _ _ (if ((1 : Int) == 1) = true then _ else _) _ _ s
  rw [if_pos (by decide)]
  refine wpAny_bind (wpAny_rule ?_)
  rw [if_neg (by rw [L2.notLongL fit]; exact Bool.false_ne_true)]
  show wpAny _ _ (updateSeq l (fun q => q.extract 0 ((a : Int)).toNat ++ ws.toArray ++ q.extract (max (a : Int) ((min c us.toArray.size : Nat) : Int)).toNat q.size) >>= _) _ _ s
  rw [top, Int.toNat_natCast]
  refine wpAny_bind (wpAny_updateSeq (hz := Nat.le_trans (Nat.le_add_right _ _) fit) (_hz' := size') g1 rfl ?_)
  refine wpAny_bind (wpAny_letGo ?_)
  exact wpAny_pure ⟨.none, rfl, wpAny_pure (h _ back)⟩
def gSlC (to tl th : TE) : TG := fun v σ H Q => to σ H fun x H1 => tl σ H1 fun a H2 => th σ H2 fun c H3 => ∃ (l b : Addr) (xs ys : List V) (i j : Nat), x = .ref l ∧ v = .ref b ∧ a = .int i ∧ c = .int j ∧ H3 l = some (.lst xs) ∧ H3 b = some (.lst ys) ∧ l ≠ b ∧ i ≤ j ∧ i ≤ xs.length ∧ xs.length + ys.length ≤ sizeLine ∧ Q σ (upd H3 l (.lst (xs.take i ++ ys ++ xs.drop j)))
theorem pg_slC {X : Cx} {o lo hi : Expr} {to tl th : TE} {p2 pos : Pos} (ho : PE X o to) (hl : PE X lo tl) (hh : PE X hi th)
    (ha : ∀ v, assign (.Subscript o (.Slice (some lo) (some hi) none p2) pos) X.env v = (do
      let ov ← holding [v] (eval o X.env)
      let iv ← holding [v, ov] (eval (.Slice (some lo) (some hi) none p2) X.env)
      standAt pos
      holding [v, ov, iv] (setItem ov iv v)
      release [iv, v, ov] []) := by intro _; rfl) : PG X (.Subscript o (.Slice (some lo) (some hi) none p2) pos) (gSlC to tl th) := by
  refine ⟨fun pins s σ H v u Q I r h => ?_⟩
  rw [ha]
  refine wpAny_bind (wpAny_holding (thn (ho.run pins s σ H _ I h) fun ov s1 ⟨x, H1, I1, r1, q1⟩ => ?_))
  refine wpAny_bind (wpAny_holding ?_)
  refine wpAny_Slice ?_
  rw [evalPart_some]
  refine thn (hl.run pins s1 σ H1 _ I1 q1) fun vl s2 ⟨a, H2, I2, ra, q2⟩ => ?_
  rw [evalPart_some]
  refine thn (hh.run pins s2 σ H2 _ I2 q2) fun vu s3 ⟨c, H3, I3, rc, q3⟩ => ?_
  rw [evalPart_none]
  refine wpAny_pure ?_
  obtain ⟨l, b, xs, ys, i, j, rfl, rfl, rfl, rfl, hx, hb, ne, ij, il, z, q⟩ := q3
  have I4 : Inv X pins σ H3 { s3 with heap := s3.heap.push { cls := .type "slice", data := .fields #[vl, vu, .none] } } := I3.kept (t' := s3.toks) fun b ob q => Heap.get?_push_of_some _ q
  obtain rfl : ov = .ref l := r1
  obtain rfl : u = .ref b := r
  refine wpAny_bind (wpAny_standAt (wpAny_bind (wpAny_holding ?_)))
  refine put_sliceC I4 hx hb ne (Heap.IsSliceOf.new ..) ra rc ij il z fun s5 I5 => ?_
  exact wpAny_release ⟨σ, _, I5, q⟩
end KR
namespace KR
open PySem PySem.Spec PyProof.Rows L2
theorem cr_strV {X : Cx} {K : PySem.W.Frag} (hK : X.K = K) (hg : X.A.guards = some []) (hu : X.A.units + 64 < cLine) : CallR X (.type "str") (rStrV K) := by
  subst hK
  intro pn s σ H xs us Q I r want
  obtain ⟨v, d, rfl, dp, fine, q⟩ := want
  cases r with
  | cons r1 r2 =>
    cases r2
    cases dp with
    | non =>
      cases r1
      exact PySem.P.str_of_none ⟨.str _, H, I.tok _, ⟨_, rfl⟩, q⟩
    | bl b =>
      cases r1
      exact PySem.P.str_of_bool ⟨.str _, H, I.tok _, ⟨_, rfl⟩, q⟩
    | int i =>
      obtain ⟨t, rfl⟩ := r1
      obtain z | ⟨k, w, f, hk, hw⟩ := fine
      · cases z
      exact PySem.P.str_of_int (of_decide_eq_true f.sh) ⟨.str _, H, I.tok _, ⟨_, rfl⟩, q⟩
    | str x =>
      obtain ⟨t, rfl⟩ := r1
      exact PySem.P.str_of_str ⟨.str _, H, I, ⟨_, rfl⟩, q⟩
    | lst a1 a2 =>
      obtain z | ⟨k, w, f, hk, hw⟩ := fine
      · cases z
      have len := f.line hk hw
      have dep := f.dep
      obtain ⟨as, rd⟩ := Dp.reads I _ _ _ (Dp.lst a1 a2) r1
      cases r1
      exact str_of_reads rd f.sh (PyData.noDict_hsm f.nd) hg (by omega) (fun _ _ e => e) (fun h' u tk hkk => ⟨.str _, H, I.kept (fun b o e => hkk b o e), ⟨_, rfl⟩, q⟩) len
    | tup a1 a2 =>
      obtain z | ⟨k, w, f, hk, hw⟩ := fine
      · cases z
      have len := f.line hk hw
      have dep := f.dep
      obtain ⟨as, rd⟩ := Dp.reads I _ _ _ (Dp.tup a1 a2) r1
      cases r1
      exact str_of_reads rd f.sh (PyData.noDict_hsm f.nd) hg (by omega) (fun _ _ e => e) (fun h' u tk hkk => ⟨.str _, H, I.kept (fun b o e => hkk b o e), ⟨_, rfl⟩, q⟩) len
end KR
/-! ### whether a thing is a day -/
namespace KR
open PySem PySem.Spec PyProof.Rows L2
theorem Tg.sm {K : PySem.W.Frag} {p : Addr → Prop} {B : Nat} {H H' : Hp} (s : Sm H H') : ∀ {n : Nat} {v : V} {d : PyData}, Tg K p H B n v d → Tg K p H' B n v d := by
  intro n v d h
  induction h with
  | non n => exact .non n
  | bl n b => exact .bl n b
  | int n i h => exact .int n i h
  | str n x w l c => exact .str n x w l c
  | lst h1 h2 h3 _ ih => exact .lst (s.lst h1) h2 h3 ih
  | tup h1 h2 _ ih => exact .tup (s.tup h1) h2 ih
theorem TgAll.sm {K : PySem.W.Frag} {p : Addr → Prop} {B n : Nat} {H H' : Hp} {xs : List V} {ds : List PyData} (h : TgAll K p H B n xs ds) (s : Sm H H') : TgAll K p H' B n xs ds := ⟨h.1, fun i x d e1 e2 => (h.2 i x d e1 e2).sm s⟩
def numIn (lo hi : Int) : PyData → Bool
  | .int i => decide (lo ≤ i) && decide (i ≤ hi)
  | _ => false
def ladB (h : Int) : PyData → Bool
  | .list xs => decide ((xs.length : Int) = h) && xs.all (numIn 0 1000000)
  | _ => false
def potB (h : Int) : PyData → Bool
  | .tuple [r, t] => numIn 1 1000000 r && ladB h t
  | _ => false
def isDayD : PyData → Bool
  | .tuple [.list cs, .list ks, s] => (decide (1 ≤ cs.length) && decide (cs.length ≤ 48)) && (decide (1 ≤ ks.length) && decide (ks.length ≤ 8)) && (ladB (cs.length : Int) (.list cs) && ladB (cs.length : Int) s) && ks.all (potB (cs.length : Int))
  | _ => false
theorem numIn_no {lo hi : Int} {d : PyData} (h : isI d = false) : numIn lo hi d = false := by
  cases d <;> first | rfl | exact nomatch h
theorem ladB_no {h : Int} {d : PyData} (n : isL d = false) : ladB h d = false := by
  cases d <;> first | rfl | exact nomatch n
theorem potB_no {h : Int} {d : PyData} (n : isT d = false) : potB h d = false := by
  cases d <;> first | rfl | exact nomatch n
theorem potB_len {h : Int} {ds : List PyData} (n : ds.length ≠ 2) : potB h (.tuple ds) = false := by
  match ds, n with
  | [], _ => rfl
  | [_], _ => rfl
  | [_, _], n => exact absurd rfl n
  | _ :: _ :: _ :: _, _ => rfl
theorem isDayD_no {d : PyData} (n : isT d = false) : isDayD d = false := by
  cases d <;> first | rfl | exact nomatch n
theorem isDayD_len {ds : List PyData} (n : ds.length ≠ 3) : isDayD (.tuple ds) = false := by
  match ds, n with
  | [], _ => rfl
  | [a], _ => cases a <;> rfl
  | [a, b], _ => cases a <;> first | rfl | (cases b <;> rfl)
  | [_, _, _], n => exact absurd rfl n
  | a :: b :: c :: e :: r, _ => cases a <;> first | rfl | (cases b <;> first | rfl | (cases c <;> rfl))
theorem isDayD_c {a b c : PyData} (n : isL a = false ∨ isL b = false) : isDayD (.tuple [a, b, c]) = false := by
  rcases n with n | n
  · cases a <;> first | rfl | exact nomatch n
  · cases a <;> first | rfl | (cases b <;> first | rfl | exact nomatch n)
theorem all_at {α : Type} {f : α → Bool} {l : List α} {i : Nat} {x : α} (h : l[i]? = some x) (n : f x = false) : l.all f = false := by
  rw [List.all_eq_false]
  exact ⟨x, List.mem_of_getElem? h, by rw [n]; exact Bool.false_ne_true⟩
theorem all_up {α : Type} {f : α → Bool} {l : List α} {i : Nat} {x : α} (t : (l.take i).all f = true) (h : l[i]? = some x) (y : f x = true) : (l.take (i + 1)).all f = true := by
  rw [take_one h, List.all_append, t]
  show (true && (f x && true)) = true
  rw [y] <;> rfl
theorem two {K : PySem.W.Frag} {Av : Addr → Prop} {H : Hp} {B n : Nat} {xs : List V} {ds : List PyData} (t : TgAll K Av H B n xs ds) (l : xs.length = 2) : ∃ x1 x2 d1 d2, xs = [x1, x2] ∧ ds = [d1, d2] ∧ Tg K Av H B n x1 d1 ∧ Tg K Av H B n x2 d2 := by
  match xs, ds, t, l with
  | [a, b], [d, e], t, _ => exact ⟨a, b, d, e, rfl, rfl, t.tail.1, t.tail.2.tail.1⟩
  | [a, b], [], t, _ => exact nomatch t.1
  | [a, b], [d], t, _ => exact nomatch t.1
  | [a, b], d :: e :: f :: r, t, _ => exact nomatch t.1
theorem threeT {K : PySem.W.Frag} {Av : Addr → Prop} {H : Hp} {B n : Nat} {xs : List V} {ds : List PyData} (t : TgAll K Av H B n xs ds) (l : xs.length = 3) : ∃ x1 x2 x3 d1 d2 d3, xs = [x1, x2, x3] ∧ ds = [d1, d2, d3] ∧ Tg K Av H B n x1 d1 ∧ Tg K Av H B n x2 d2 ∧ Tg K Av H B n x3 d3 := by
  match xs, ds, t, l with
  | [a, b, c], [d, e, f], t, _ => exact ⟨a, b, c, d, e, f, rfl, rfl, t.tail.1, t.tail.2.tail.1, t.tail.2.tail.2.tail.1⟩
  | [a, b, c], [], t, _ => exact nomatch t.1
  | [a, b, c], [d], t, _ => exact nomatch t.1
  | [a, b, c], [d, e], t, _ => exact nomatch t.1
  | [a, b, c], d :: e :: f :: g :: r, t, _ => exact nomatch t.1
/-- days as things -/
def potE (k : Int × List Int) : PyData := .tuple [.int k.1, din k.2]
def dayE (D : Dy) : PyData := .tuple [din D.cs, .list (D.ks.map potE), din D.ss]
theorem ldl_tg {K : PySem.W.Frag} {Av : Addr → Prop} {H : Hp} {n : Nat} {ns : List Int} (L : Ldl ns) : TgAll K Av H 1000000 n (ns.map V.int) (ns.map PyData.int) := by
  refine ⟨by rw [List.length_map, List.length_map], fun i x d e1 e2 => ?_⟩
  rw [List.getElem?_map] at e1 e2
  obtain ⟨z, ez, rfl⟩ := Option.map_eq_some_iff.mp e1
  rw [ez] at e2
  cases e2
  have := L z (List.mem_of_getElem? ez)
  exact .int _ _ (by omega)
theorem ldlL_tg {K : PySem.W.Frag} {Av : Addr → Prop} {H : Hp} {n : Nat} {a : Addr} {ns : List Int} (L : Ldl ns) (h : H a = some (.lst (ns.map V.int))) (na : ¬ Av a) : Tg K Av H 1000000 (n + 1) (.ref a) (din ns) := (ldl_tg L).l h na
theorem pots_tg {K : PySem.W.Frag} {H : Hp} {p f : Addr} {as : List Addr} {ks : List (Int × List Int)} (h : PotsF K H p f as ks) (ok : ∀ k ∈ ks, 1 ≤ k.1 ∧ k.1 ≤ 1000000 ∧ Ldl k.2) : TgAll K (fun a => a = p) H 1000000 2 (as.map V.ref) (ks.map potE) := by
  refine ⟨by rw [List.length_map, List.length_map, Paired.length h], fun i x d e1 e2 => ?_⟩
  rw [List.getElem?_map] at e1 e2
  obtain ⟨a, ea, rfl⟩ := Option.map_eq_some_iff.mp e1
  obtain ⟨k, ek, rfl⟩ := Option.map_eq_some_iff.mp e2
  obtain ⟨k', ek', t, h1, h2, h3, _⟩ := h.get ea
  rw [ek] at ek'
  cases ek'
  obtain ⟨o1, o2, o3⟩ := ok k (List.mem_of_getElem? ek)
  exact (TgAll.cons (.int _ _ (by omega)) (.cons (ldlL_tg (n := 0) o3 h2 h3) .nil)).t h1
theorem nums_in {ns : List Int} (L : Ldl ns) : (ns.map PyData.int).all (numIn 0 1000000) = true := by
  rw [List.all_eq_true]
  intro d hd
  obtain ⟨z, hz, rfl⟩ := List.mem_map.mp hd
  have := L z hz
  show (decide (0 ≤ z) && decide (z ≤ 1000000)) = true
  rw [decide_eq_true this.1, decide_eq_true this.2] <;> rfl
theorem ladB_din {h : Int} {ns : List Int} (L : Ldl ns) (l : (ns.length : Int) = h) : ladB h (din ns) = true := by
  show (decide (((ns.map PyData.int).length : Int) = h) && (ns.map PyData.int).all (numIn 0 1000000)) = true
  rw [nums_in L, decide_eq_true (by rw [List.length_map]; exact l)] <;> rfl
theorem dayE_is {D : Dy} (O : DyOk D) (N : DyNn D) : isDayD (dayE D) = true := by
  have h1 := O.h1
  have h2 := O.h2
  have k1 := O.k1
  have k2 := O.k2
  have e : ((D.cs.map PyData.int).length : Int) = (D.cs.length : Int) := by rw [List.length_map]
  show ((decide (1 ≤ (D.cs.map PyData.int).length) && decide ((D.cs.map PyData.int).length ≤ 48)) && (decide (1 ≤ (D.ks.map potE).length) && decide ((D.ks.map potE).length ≤ 8)) && (ladB ((D.cs.map PyData.int).length : Int) (din D.cs) && ladB ((D.cs.map PyData.int).length : Int) (din D.ss)) && (D.ks.map potE).all (potB ((D.cs.map PyData.int).length : Int))) = true
  rw [e, ladB_din N.cs rfl, ladB_din N.ss (by rw [O.sl]), List.length_map, List.length_map, decide_eq_true h1, decide_eq_true h2, decide_eq_true k1, decide_eq_true k2]
  show (D.ks.map potE).all (potB (D.cs.length : Int)) = true
  rw [List.all_eq_true]
  intro d hd
  obtain ⟨k, hk, rfl⟩ := List.mem_map.mp hd
  obtain ⟨o1, o2, o3⟩ := N.ks k hk
  show ((decide (1 ≤ k.1) && decide (k.1 ≤ 1000000)) && ladB (D.cs.length : Int) (din k.2)) = true
  rw [ladB_din o3 (by rw [O.ts k hk]), decide_eq_true o1, decide_eq_true o2] <;> rfl
theorem wa_ldl : ∀ {ns : List Int}, Ldl ns → PyData.weightAll (ns.map PyData.int) ≤ 21 * ns.length
  | [], _ => Nat.zero_le _
  | z :: r, L => by
    have a := (Fine.ldl 0 (L z List.mem_cons_self).1 (L z List.mem_cons_self).2).wt
    have b := wa_ldl (ns := r) fun y hy => L y (List.mem_cons_of_mem _ hy)
    rw [List.map_cons, List.length_cons]
    show PyData.weight (.int z) + 1 + PyData.weightAll (r.map PyData.int) ≤ _
    omega
theorem wa_pots : ∀ {ks : List (Int × List Int)}, (∀ k ∈ ks, 1 ≤ k.1 ∧ k.1 ≤ 1000000 ∧ Ldl k.2) → (∀ k ∈ ks, k.2.length ≤ 48) → PyData.weightAll (ks.map potE) ≤ 1031 * ks.length
  | [], _, _ => Nat.zero_le _
  | k :: r, ok, l => by
    obtain ⟨o1, o2, o3⟩ := ok k List.mem_cons_self
    have a := (Fine.ldl 0 (i := k.1) (by omega) o2).wt
    have b := wa_pots (ks := r) (fun y hy => ok y (List.mem_cons_of_mem _ hy)) fun y hy => l y (List.mem_cons_of_mem _ hy)
    have c := wa_ldl o3
    have e := l k List.mem_cons_self
    rw [List.map_cons, List.length_cons]
    show (PyData.weight (.int k.1) + 1 + (PyData.weightAll (k.2.map PyData.int) + 1 + 0)) + 1 + PyData.weightAll (r.map potE) ≤ _
    omega
theorem dayE_wt {D : Dy} (O : DyOk D) (N : DyNn D) : PyData.weight (dayE D) ≤ 10300 := by
  have h2 := O.h2
  have k2 := O.k2
  have sl := O.sl
  have a := wa_ldl N.cs
  have b := wa_ldl N.ss
  have c := wa_pots N.ks fun k hk => by rw [O.ts k hk]; exact h2
  show PyData.weightAll (D.cs.map PyData.int) + 1 + (PyData.weightAll (D.ks.map potE) + 1 + (PyData.weightAll (D.ss.map PyData.int) + 1 + 0)) ≤ _
  omega
theorem sqT_fs {K : PySem.W.Frag} {H H' : Hp} {a p : Addr} {n : Nat} {xs : List V} (h : SqT K H a xs) (B : BoxAt H p n) (F : Fs p H H') : SqT K H' a xs := by
  obtain ⟨x, y, z, hb, _⟩ := B
  have ne : ∀ {o : HO}, H a = some o → (∀ l, o ≠ .lst l) → a ≠ p := fun {o} e n z => by
    rw [z, hb] at e
    exact n _ (Option.some.inj e).symm
  rcases h with (h | ⟨o, h⟩) | h
  · exact .inl (.inl (F.keep _ _ (ne h nofun) h nofun))
  · exact .inl (.inr ⟨o, F.keep _ _ (ne h nofun) h nofun⟩)
  · exact .inr h
theorem Tg.fs {K : PySem.W.Frag} {p : Addr → Prop} {q : Addr} (hq : p q) {B m : Nat} {H H' : Hp} (b : BoxAt H q m) (F : Fs q H H') : ∀ {n : Nat} {v : V} {d : PyData}, Tg K p H B n v d → Tg K p H' B n v d := by
  intro n v d h
  induction h with
  | non n => exact .non n
  | bl n b => exact .bl n b
  | int n i h => exact .int n i h
  | str n x w l c => exact .str n x w l c
  | lst h1 h2 h3 _ ih => exact .lst (F.keep _ _ (fun z => h2 (z ▸ hq)) h1 nofun) h2 h3 ih
  | tup h1 h2 _ ih => exact .tup (sqT_fs h1 b F) h2 ih
theorem sm_new_fs {H0 H1 H2 : Hp} {p : Addr} (s : Same H0 H1) (n : H0 p = none) (F : Fs p H1 H2) : Sm H0 H2 := by
  refine ⟨fun b o h no => F.keep b o (ne_of_none h n) (s _ _ h) no, fun b t => ?_⟩
  obtain ⟨q, e⟩ := tab_at t
  exact F.tab b (ne_of_none e n) ((Sm.of s).tab b t)
theorem rep_one (k : Nat) (v : V) : (List.replicate ((k : Int)).toNat [v]).flatten = List.replicate k v := by
  rw [Int.toNat_natCast]
  induction k with
  | zero => rfl
  | succ k ih =>
    rw [List.replicate_succ, List.replicate_succ, List.flatten_cons, ih] <;> rfl
theorem rep_tg {K : PySem.W.Frag} {p : Addr → Prop} {B n k : Nat} {H : Hp} {v : V} {d : PyData} (h : Tg K p H B n v d) : TgAll K p H B n (List.replicate k v) (List.replicate k d) := by
  refine ⟨by rw [List.length_replicate, List.length_replicate], fun i x e e1 e2 => ?_⟩
  have a := List.mem_of_getElem? e1
  have b := List.mem_of_getElem? e2
  rw [List.eq_of_mem_replicate a, List.eq_of_mem_replicate b]
  exact h
theorem day_tgL {K : PySem.W.Frag} {p : Addr → Prop} {H : Hp} {t1 g t2 d : Addr} {cs ss : List Int} {ks : List (Int × List Int)} {xs : List V} (L1 : Ldl cs) (L2 : Ldl ss) (h1 : H t1 = some (.lst (cs.map V.int))) (n1 : ¬ p t1) (hg : H g = some (.lst xs)) (ng : ¬ p g) (hk : TgAll K p H 1000000 2 xs (ks.map potE)) (h2 : H t2 = some (.lst (ss.map V.int))) (n2 : ¬ p t2)
    (hd : SqT K H d [.ref t1, .ref g, .ref t2]) : Tg K p H 1000000 4 (.ref d) (dayE ⟨cs, ks, ss⟩) :=
  (TgAll.cons ((ldlL_tg (n := 0) L1 h1 n1).up (Nat.le_refl _) (by decide)) (.cons (hk.l hg ng) (.cons ((ldlL_tg (n := 0) L2 h2 n2).up (Nat.le_refl _) (by decide)) .nil))).t hd
theorem pot_tg {K : PySem.W.Frag} {p : Addr → Prop} {H : Hp} {u t : Addr} {r : Int} {ns : List Int} (r0 : 1 ≤ r) (r1 : r ≤ 1000000) (L : Ldl ns) (ht : H t = some (.lst (ns.map V.int))) (nt : ¬ p t) (hu : SqT K H u [.int r, .ref t]) : Tg K p H 1000000 2 (.ref u) (potE (r, ns)) :=
  (TgAll.cons (.int _ _ (by omega)) (.cons (ldlL_tg (n := 0) L ht nt) .nil)).t hu
theorem ldl_rep {k : Nat} {z : Int} (h0 : 0 ≤ z) (h1 : z ≤ 1000000) : Ldl (List.replicate k z) := fun y hy => by
  rw [List.eq_of_mem_replicate hy]
  exact ⟨h0, h1⟩
theorem dayE_wt2 {D : Dy} (L1 : Ldl D.cs) (L2 : Ldl D.ss) (N : ∀ k ∈ D.ks, 1 ≤ k.1 ∧ k.1 ≤ 1000000 ∧ Ldl k.2) (h : ∀ k ∈ D.ks, k.2.length ≤ 49) : PyData.weight (dayE D) ≤ 21 * D.cs.length + 1052 * D.ks.length + 21 * D.ss.length + 3 := by
  have a := wa_ldl L1
  have b := wa_ldl L2
  have c : ∀ {ks : List (Int × List Int)}, (∀ k ∈ ks, 1 ≤ k.1 ∧ k.1 ≤ 1000000 ∧ Ldl k.2) → (∀ k ∈ ks, k.2.length ≤ 49) → PyData.weightAll (ks.map potE) ≤ 1052 * ks.length := fun {ks} => by
    induction ks with
    | nil => exact fun _ _ => Nat.zero_le _
    | cons k r ih =>
      intro ok l
      obtain ⟨o1, o2, o3⟩ := ok k List.mem_cons_self
      have a := (Fine.ldl 0 (i := k.1) (by omega) o2).wt
      have b := ih (fun y hy => ok y (List.mem_cons_of_mem _ hy)) fun y hy => l y (List.mem_cons_of_mem _ hy)
      have c := wa_ldl o3
      have e := l k List.mem_cons_self
      rw [List.map_cons, List.length_cons]
      show (PyData.weight (.int k.1) + 1 + (PyData.weightAll (k.2.map PyData.int) + 1 + 0)) + 1 + PyData.weightAll (r.map potE) ≤ _
      omega
  have c := c N h
  show PyData.weightAll (D.cs.map PyData.int) + 1 + (PyData.weightAll (D.ks.map potE) + 1 + (PyData.weightAll (D.ss.map PyData.int) + 1 + 0)) ≤ _
  omega
end KR
/-! ### a < b < c <= d; a row's parts -/
namespace KR
open PySem PySem.Spec PyProof.Rows L2
section
variable {X : Cx} {a b c d : Expr} {ta tb tc td : TE} {pos : Pos}
def tChain3 (r r' r2 : R2) (ta tb tc td : TE) : TE := fun σ H Q => ta σ H fun x H1 => tb σ H1 fun y H2 => r x y H2 fun z H3 => ∃ k, z = .bl k ∧
  (if k = true then tc σ H3 fun u H4 => r' y u H4 fun z H5 => ∃ k, z = .bl k ∧ (if k = true then td σ H5 fun v H6 => r2 u v H6 Q else Q (.bl false) H5) else Q (.bl false) H3)
theorem pe_chain3 {op op' op2 : CmpOp} {r r' r2 : R2} (ho : OpR X (compareOp op) r) (ho' : OpR X (compareOp op') r') (ho2 : OpR X (compareOp op2) r2) (ha : PE X a ta) (hb : PE X b tb) (hc : PE X c tc) (hd : PE X d td)
    (hm : lastMarks [op, op', op2] [b, c, d] = false := by with_unfolding_all rfl) : PE X (.Compare a [op, op', op2] [b, c, d] pos) (tChain3 r r' r2 ta tb tc td) := by
  constructor
  intro pins s σ H Q I h
  refine Compare_chain (thn (ha.run pins s σ H _ I h) fun v s1 ⟨x, H1, I1, r1, q1⟩ => chain_link (thn (hb.run pins s1 σ H1 _ I1 q1) fun u s2 ⟨y, H2, I2, r2', q2⟩ => thn (ho pins s2 σ H2 x y v u _ I2 r1 r2' q2) fun e s3 ⟨z, H3, I3, r3, k, ez, q3⟩ => ?_)) hm
  subst ez
  cases r3
  refine wpAny_truthy_bool ?_
  cases k with
  | false => exact ite_ff ⟨.bl false, H3, I3, rfl, q3⟩
  | true =>
    refine ite_tt (chain_link (thn (hc.run pins s3 σ H3 _ I3 q3) fun u2 s4 ⟨y2, H4, I4, r4, q4⟩ => thn (ho' pins s4 σ H4 y y2 u u2 _ I4 r2' r4 q4) fun e2 s5 ⟨z2, H5, I5, r5, k2, ez2, q5⟩ => ?_))
    subst ez2
    cases r5
    refine wpAny_truthy_bool ?_
    cases k2 with
    | false => exact ite_ff ⟨.bl false, H5, I5, rfl, q5⟩
    | true => exact ite_tt (chain_last (thn (hd.run pins s5 σ H5 _ I5 q5) fun u3 s6 ⟨y3, H6, I6, r6, q6⟩ => ho2 pins s6 σ H6 y2 y3 u2 u3 Q I6 r4 r6 q6))
end
end KR
/-! ### whether a thing is a list of kinds -/
namespace KR
open PySem PySem.Spec PyProof.Rows L2
/-- a number less a number or truth -/
def rNbI (f : Int → Int → Int) : R2 := fun x y H Q => ∃ i j, x = .int i ∧ numOf y = some j ∧ Q (.int (f i j)) H
theorem op_subIb {X : Cx} : OpR X (binaryOp .Sub) (rNbI fun i j => i - j) := by
  intro pins s σ H x y v u Q I rx ry ⟨i, j, e, e2, q⟩
  subst e
  cases y <;> try (cases e2; done)
  case bl b =>
    cases e2
    obtain ⟨t, rfl⟩ := rx
    cases ry
    exact PySem.IntBool.sub_int_bool ⟨.int _, H, I.tok _, ⟨_, rfl⟩, q⟩
  case int j' =>
    cases e2
    exact op_sub pins s σ H _ _ v u Q I rx ry ⟨i, _, rfl, rfl, q⟩
/-- how a thing looks: a leaf, or a row -/
theorem Tg.look2 {K : PySem.W.Frag} {p : Addr → Prop} {q : Addr} (hq : p q) {B : Nat} {H : Hp} {n : Nat} {v : V} {d : PyData} (hB : 1 ≤ B) (h : Tg K p H B n v d) :
    (∃ (t : String) (bi : Bool), isL d = false ∧ isT d = false ∧ (∀ H2, TyX K H2 v (.type t)) ∧ kitB t "list" = some false ∧ kitB t "tuple" = some false ∧ kitB t "int" = some bi ∧ (bi = true → (∃ i, numOf v = some i ∧ i.natAbs ≤ B) ∧ SeqAt.shaped d = true)) ∨
    (∃ (t : String) (bl bt : Bool) (a : Addr) (xs : List V) (ds : List PyData) (m : Nat), v = .ref a ∧ n = m + 1 ∧ (∀ (H' : Hp) (mm : Nat), BoxAt H q mm → Fr q H H' → TyX K H' v (.type t)) ∧ kitB t "list" = some bl ∧ kitB t "tuple" = some bt ∧ (bl = false → bt = true) ∧ (SqL K H a xs ∨ SqT K H a xs) ∧ TgAll K p H B m xs ds ∧ PyData.weight d = PyData.weightAll ds) := by
  cases h with
  | non n => exact .inl ⟨"NoneType", false, rfl, rfl, fun _ => .base .non, by decide +kernel, by decide +kernel, by decide +kernel, fun z => nomatch z⟩
  | bl n b => exact .inl ⟨"bool", true, rfl, rfl, fun _ => .base (.bl b), by decide +kernel, by decide +kernel, by decide +kernel, fun _ => ⟨⟨_, rfl, by cases b <;> simp <;> omega⟩, rfl⟩⟩
  | int n i h => exact .inl ⟨"int", true, rfl, rfl, fun _ => .base (.int i), by decide +kernel, by decide +kernel, by decide +kernel, fun _ => ⟨⟨_, rfl, h⟩, rfl⟩⟩
  | str n x w l c => exact .inl ⟨"str", false, rfl, rfl, fun _ => .base (.str x), by decide +kernel, by decide +kernel, by decide +kernel, fun z => nomatch z⟩
  | lst h1 h2 h3 h4 => exact .inr ⟨"list", true, false, _, _, _, _, rfl, rfl, fun H' mm b F => .base (.lst (F _ _ (fun z => h2 (z ▸ hq)) h1)), by decide +kernel, by decide +kernel, (fun z => nomatch z), .inl (SqL.of h1), ⟨h3, h4⟩, rfl⟩
  | tup h1 h2 h3 => exact .inr ⟨"tuple", false, true, _, _, _, _, rfl, rfl, fun H' mm b F => sqT_ty (sqT_fr h1 b F), by decide +kernel, by decide +kernel, fun _ => rfl, .inr h1, ⟨h2, h3⟩, rfl⟩
/-- a tuple of the law's own making times a number, once too (then it is the tuple itself) -/
theorem tuple_mul1 (l : Addr) (items : Array Value) (n : Nat) (dd : Option Addr) (sl : Array (Option Value)) (u : Tok) :
    Meets (Builtin.«tuple.__mul__» ⟨[.ref l, .int 1 u], []⟩) (fun _ R s => s.heap.get? l = some { cls := .type "tuple", dict := dd, data := .seq items n, slots := sl } ∧ R (.ok (.ret (.ref l))) s) :=
  .of_wp fun prog w A R s h => by
    obtain ⟨hp, g, d, tk, os⟩ := s
    obtain ⟨hl, h⟩ := h
    have f1 := AutoSeq1.idx_int
    wp_walk using AutoSeq1.wpAny_loadPart' hl
    exact ⟨_, rfl, h⟩
def rRepJ (K : PySem.W.Frag) : R2 := fun x y H Q => ∃ (l : Addr) (k : Nat) (xs : List V), x = .ref l ∧ y = .int (k : Int) ∧ H l = some (.tup xs) ∧ xs ≠ [] ∧ 1 ≤ k ∧ k ≤ 1000 ∧ xs.length ≤ 1000 ∧ ∀ p H', Same H H' → SqT K H' p (List.replicate k xs).flatten → Q (.ref p) H'
theorem op_repJ {X : Cx} {K : PySem.W.Frag} (hK : X.K = K) : OpR X (binaryOp .Mult) (rRepJ K) := by
  subst hK
  intro pins s σ H x y v u Q I rx ry h
  obtain ⟨l, k, xs, rfl, rfl, hl, hne, h1, h2, hz, q⟩ := h
  by_cases c : 2 ≤ k
  · refine op_repT pins s σ H _ _ v u Q I rx ry ⟨l, (k : Int), xs, rfl, rfl, SqT.of hl, hne, by omega, by omega, hz, fun p np => q p _ (same_new np) (SqT.of ?_)⟩
    rw [Int.toNat_natCast]
    exact upd_same
  · obtain rfl : k = 1 := by omega
    have q := q l H (.refl _) (by rw [List.replicate_one, List.flatten_cons, List.flatten_nil, List.append_nil]; exact SqT.of hl)
    cases rx
    obtain ⟨t, rfl⟩ := ry
    obtain ⟨its, r, ⟨⟨cls, dd, data, sl⟩, ho, hc, n, hd⟩, hs⟩ := I.tuple (SqT.of hl)
    simp only at hc hd
    subst hc hd
    refine wpAny_binaryOp_repeat_ref (T := "tuple") (U := "int") (by decide) ⟨_, ho, rfl⟩ (fun s' => typeIs_int s' _ t) noFill_tuple_mul F.fills_int_mul F.slot_int_rmul repeat_tuple F.slot_int_index.lookup
      (call_meets F.slot_int_rmul (typeIs_int s _ t) F.entry_int_rmul (F.args_int_rmul_2 _ _) (int_rmul_tuple _ t l its.toArray n dd sl)
        ⟨ho, rfl, ⟨_, ho, rfl⟩, call_meets F.slot_tuple_mul ⟨_, ho, rfl⟩ F.entry_tuple_mul (F.args_tuple_mul_2 _ _) (tuple_mul1 l its.toArray n dd sl t) ⟨ho, ?_⟩⟩)
    exact ⟨.ref l, H, I, rfl, q⟩
theorem wa_bd {w : Nat} : ∀ {ds : List PyData}, (∀ d ∈ ds, PyData.weight d ≤ w) → PyData.weightAll ds ≤ (w + 1) * ds.length
  | [], _ => Nat.zero_le _
  | d :: ds, h => by
    have a := h d List.mem_cons_self
    have b := wa_bd (ds := ds) fun y hy => h y (List.mem_cons_of_mem _ hy)
    show PyData.weight d + 1 + PyData.weightAll ds ≤ (w + 1) * (ds.length + 1)
    rw [Nat.mul_succ]
    omega
def fracD : PyData → Bool
  | .tuple [.int a, .int b] => decide (0 < b) && decide (Nat.gcd a.natAbs b.natAbs = 1)
  | _ => false
def rngD : PyData → Bool
  | .tuple [.int a, .int b] => decide (0 ≤ a) && (decide (a ≤ b) && decide (b ≤ 12))
  | _ => false
def partD (d : PyData) : Bool := fracD d && rngD d
def ratD : PyData → Rat
  | .tuple [.int a, .int b] => rq a b
  | _ => 0
def goesD (n : Int) : PyData → Bool
  | .tuple ps => (decide ((ps.length : Int) = n) && ps.all partD) && decide (zsum (ps.map ratD) ≤ 1)
  | _ => false
def kindD (n : Int) : PyData → Bool
  | .tuple [f, d, g] => numIn 0 1000000 f && (partD d && goesD n g)
  | _ => false
def kindsD : PyData → Bool
  | .list ks => (decide (1 ≤ ks.length) && decide (ks.length ≤ 6)) && ks.all (kindD (ks.length : Int))
  | _ => false
theorem fracD_no {d : PyData} (n : isT d = false) : fracD d = false := by
  cases d <;> first | rfl | exact nomatch n
theorem partD_no {d : PyData} (n : isT d = false) : partD d = false := by
  unfold partD
  rw [fracD_no n] <;> rfl
theorem goesD_no {d : PyData} {m : Int} (n : isT d = false) : goesD m d = false := by
  cases d <;> first | rfl | exact nomatch n
theorem kindD_no {d : PyData} {m : Int} (n : isT d = false) : kindD m d = false := by
  cases d <;> first | rfl | exact nomatch n
theorem kindsD_no {d : PyData} (n : isL d = false) : kindsD d = false := by
  cases d <;> first | rfl | exact nomatch n
theorem fracD_len {ds : List PyData} (n : ds.length ≠ 2) : fracD (.tuple ds) = false := by
  match ds, n with
  | [], _ => rfl
  | [a], _ => cases a <;> rfl
  | [_, _], n => exact absurd rfl n
  | a :: b :: c :: r, _ => cases a <;> first | rfl | (cases b <;> rfl)
theorem partD_len {ds : List PyData} (n : ds.length ≠ 2) : partD (.tuple ds) = false := by
  unfold partD
  rw [fracD_len n] <;> rfl
theorem kindD_len {ds : List PyData} {m : Int} (n : ds.length ≠ 3) : kindD m (.tuple ds) = false := by
  match ds, n with
  | [], _ => rfl
  | [_], _ => rfl
  | [_, _], _ => rfl
  | [_, _, _], n => exact absurd rfl n
  | _ :: _ :: _ :: _ :: _, _ => rfl
theorem fracD_i {a b : PyData} (n : isI a = false ∨ isI b = false) : fracD (.tuple [a, b]) = false := by
  rcases n with n | n
  · cases a <;> first | rfl | exact nomatch n
  · cases a <;> first | rfl | (cases b <;> first | rfl | exact nomatch n)
theorem partD_i {a b : PyData} (n : isI a = false ∨ isI b = false) : partD (.tuple [a, b]) = false := by
  unfold partD
  rw [fracD_i n] <;> rfl
theorem low_self {a b : Int} (h : IsLow a b) : (rq a b).num = a ∧ ((rq a b).den : Int) = b := by
  have hb : b ≠ 0 := by have := h.pos; omega
  have e1 := rq_low (t := a) hb
  have e2 := low_eq hb h (rfl : a * b = a * b)
  rw [e2] at e1
  injection e1 with e3 e4
  exact ⟨e3.symm, e4.symm⟩
theorem dq_self {a b : Int} (h : IsLow a b) : dq (rq a b) = .tuple [.int a, .int b] := by
  obtain ⟨e1, e2⟩ := low_self h
  unfold dq
  rw [e1, e2]
theorem partD_mk {a b : Int} (h : partD (.tuple [.int a, .int b]) = true) : IsLow a b ∧ 0 ≤ a ∧ a ≤ b ∧ b ≤ 12 := by
  have h : ((decide (0 < b) && decide (Nat.gcd a.natAbs b.natAbs = 1)) && (decide (0 ≤ a) && (decide (a ≤ b) && decide (b ≤ 12)))) = true := h
  simp only [Bool.and_eq_true, decide_eq_true_eq] at h
  obtain ⟨⟨h1, h2⟩, h3, h4, h5⟩ := h
  exact ⟨⟨h1, h2⟩, h3, h4, h5⟩
theorem part_of {a b : Int} (h : IsLow a b) (h3 : 0 ≤ a) (h4 : a ≤ b) (h5 : b ≤ 12) : Part (rq a b) :=
  ⟨rq_nn h3 h.pos, rq_le_one h4 h.pos, by have := (low_self h).2; omega⟩
theorem part_num {q : Rat} (h : Part q) : 0 ≤ q.num ∧ q.num ≤ (q.den : Int) ∧ (q.den : Int) ≤ 12 :=
  ⟨Rat.num_nonneg.mpr h.lo, (le_one_iff q).mpr h.hi, by have := h.bt; omega⟩
theorem partD_dq {q : Rat} (h : Part q) : partD (dq q) = true := by
  obtain ⟨h1, h2, h3⟩ := part_num h
  have l := rat_low q
  show ((decide (0 < (q.den : Int)) && decide (Nat.gcd q.num.natAbs (q.den : Int).natAbs = 1)) && (decide (0 ≤ q.num) && (decide (q.num ≤ (q.den : Int)) && decide ((q.den : Int) ≤ 12)))) = true
  rw [decide_eq_true l.pos, decide_eq_true l.cop, decide_eq_true h1, decide_eq_true h2, decide_eq_true h3] <;> rfl
theorem ratD_dq (q : Rat) : ratD (dq q) = q := rq_self q
theorem Tg.part {K : PySem.W.Frag} {Av : Addr → Prop} {H : Hp} {B n : Nat} {v : V} {d : PyData} (h : Tg K Av H B n v d) (e : partD d = true) : ∃ (a : Addr) (q : Rat), v = .ref a ∧ d = dq q ∧ FrQ K H a q ∧ Part q := by
  have it : isT d = true := by
    cases c : isT d with
    | true => rfl
    | false =>
      rw [partD_no c] at e
      cases e
  obtain ⟨a, xs, ds, m, rfl, rfl, rfl, sq, tg⟩ := h.tupI it
  have l2 : xs.length = 2 := by
    by_cases c : xs.length = 2
    · exact c
    · rw [partD_len (by rw [← tg.1]; exact c)] at e
      cases e
  obtain ⟨x1, x2, d1, d2, rfl, rfl, g1, g2⟩ := two tg l2
  have i1 : isI d1 = true := by
    cases c : isI d1 with
    | true => rfl
    | false =>
      rw [partD_i (.inl c)] at e
      cases e
  have i2 : isI d2 = true := by
    cases c : isI d2 with
    | true => rfl
    | false =>
      rw [partD_i (.inr c)] at e
      cases e
  obtain ⟨i, rfl, rfl, _⟩ := g1.intI i1
  obtain ⟨j, rfl, rfl, _⟩ := g2.intI i2
  obtain ⟨lo, h3, h4, h5⟩ := partD_mk e
  refine ⟨a, rq i j, rfl, (dq_self lo).symm, ?_, part_of lo h3 h4 h5⟩
  obtain ⟨e1, e2⟩ := low_self lo
  show SqT K H a [.int (rq i j).num, .int ((rq i j).den : Int)]
  rw [e1, e2]
  exact sq
theorem TgAll.parts {K : PySem.W.Frag} {Av : Addr → Prop} {H : Hp} {B n : Nat} : ∀ {xs : List V} {ds : List PyData}, TgAll K Av H B n xs ds → ds.all partD = true → ∃ l : List Fz, xs = rz l ∧ FL K H l ∧ (∀ z ∈ l, Part z.2) ∧ l.map (·.2) = ds.map ratD
  | [], [], _, _ => ⟨[], rfl, FL.nil, fun z hz => absurd hz List.not_mem_nil, rfl⟩
  | [], _ :: _, h, _ => by have := h.1; cases this
  | _ :: _, [], h, _ => by have := h.1; cases this
  | x :: xs, d :: ds, h, al => by
    rw [List.all_cons, Bool.and_eq_true] at al
    obtain ⟨t1, t2⟩ := h.tail
    obtain ⟨a, q, rfl, rfl, fq, pq⟩ := t1.part al.1
    obtain ⟨l, rfl, fl, pa, e⟩ := TgAll.parts t2 al.2
    refine ⟨(a, q) :: l, rfl, fun z hz => ?_, fun z hz => ?_, ?_⟩
    · rcases List.mem_cons.mp hz with m | m
      · rw [m]
        exact fq
      · exact fl z m
    · rcases List.mem_cons.mp hz with m | m
      · rw [m]
        exact pq
      · exact pa z m
    · rw [List.map_cons, List.map_cons, e, ratD_dq]
/-- kinds as things -/
def kindE (k : Kn) : PyData := .tuple [.int k.fresh, dq k.drip, .tuple (k.goes.map fun z => dq z.2)]
theorem dq_tg {K : PySem.W.Frag} {Av : Addr → Prop} {H : Hp} {n : Nat} {a : Addr} {q : Rat} (h : FrQ K H a q) (p : Part q) : Tg K Av H 1000001 (n + 1) (.ref a) (dq q) := by
  obtain ⟨h1, h2, h3⟩ := part_num p
  exact (TgAll.cons (.int _ _ (by omega)) (.cons (.int _ _ (by omega)) .nil)).t h
theorem goes_tg {K : PySem.W.Frag} {Av : Addr → Prop} {H : Hp} {n : Nat} : ∀ {l : List Fz}, FL K H l → (∀ z ∈ l, Part z.2) → TgAll K Av H 1000001 (n + 1) (rz l) (l.map fun z => dq z.2)
  | [], _, _ => .nil
  | z :: l, f, p => .cons (dq_tg (f z List.mem_cons_self) (p z List.mem_cons_self)) (goes_tg (fun y hy => f y (List.mem_cons_of_mem _ hy)) fun y hy => p y (List.mem_cons_of_mem _ hy))
theorem kn_tg {K : PySem.W.Frag} {Av : Addr → Prop} {H : Hp} {n : Nat} {k : Kn} (h : KnOk K H n k) : Tg K Av H 1000001 3 (.ref k.a) (kindE k) := by
  have h0 := h.f0
  have h1 := h.f1
  exact (TgAll.cons (.int _ _ (by omega)) (.cons (dq_tg h.dr h.pd) (.cons ((goes_tg (n := 0) h.go.fl h.go.pa).t h.gs) .nil))).t h.at_
theorem kns_tg {K : PySem.W.Frag} {Av : Addr → Prop} {H : Hp} {n : Nat} : ∀ {ks : List Kn}, KnL K H n ks → TgAll K Av H 1000001 3 (rk ks) (ks.map kindE)
  | [], _ => .nil
  | k :: ks, h => .cons (kn_tg (h k List.mem_cons_self)) (kns_tg fun y hy => h y (List.mem_cons_of_mem _ hy))
theorem parts_all {l : List Fz} (h : ∀ z ∈ l, Part z.2) : (l.map fun z => dq z.2).all partD = true := by
  rw [List.all_eq_true]
  intro d hd
  obtain ⟨z, hz, rfl⟩ := List.mem_map.mp hd
  exact partD_dq (h z hz)
theorem parts_rat (l : List Fz) : (l.map fun z => dq z.2).map ratD = l.map (·.2) := by
  rw [List.map_map]
  exact List.map_congr_left fun z _ => ratD_dq z.2
theorem goesD_is {m : Int} {l : List Fz} (e : (l.length : Int) = m) (p : ∀ z ∈ l, Part z.2) (one : zsum (l.map (·.2)) ≤ 1) : goesD m (.tuple (l.map fun z => dq z.2)) = true := by
  show ((decide (((l.map fun z => dq z.2).length : Int) = m) && (l.map fun z => dq z.2).all partD) && decide (zsum ((l.map fun z => dq z.2).map ratD) ≤ 1)) = true
  rw [parts_all p, parts_rat, decide_eq_true one, decide_eq_true (by rw [List.length_map]; exact e)] <;> rfl
theorem numIn_is {lo hi i : Int} (h1 : lo ≤ i) (h2 : i ≤ hi) : numIn lo hi (.int i) = true := by
  show (decide (lo ≤ i) && decide (i ≤ hi)) = true
  rw [decide_eq_true h1, decide_eq_true h2] <;> rfl
theorem kinds_is {K : PySem.W.Frag} {H : Hp} {ks : List Kn} (h : KnL K H ks.length ks) (l1 : 1 ≤ ks.length) (l6 : ks.length ≤ 6) : kindsD (.list (ks.map kindE)) = true := by
  show ((decide (1 ≤ (ks.map kindE).length) && decide ((ks.map kindE).length ≤ 6)) && (ks.map kindE).all (kindD ((ks.map kindE).length : Int))) = true
  rw [List.length_map, decide_eq_true l1, decide_eq_true l6]
  show (ks.map kindE).all (kindD (ks.length : Int)) = true
  rw [List.all_eq_true]
  intro d hd
  obtain ⟨k, hk, rfl⟩ := List.mem_map.mp hd
  have o := h k hk
  show (numIn 0 1000000 (.int k.fresh) && (partD (dq k.drip) && goesD (ks.length : Int) (.tuple (k.goes.map fun z => dq z.2)))) = true
  rw [numIn_is o.f0 o.f1, partD_dq o.pd, goesD_is (by rw [o.go.len]) o.go.pa o.go.one] <;> rfl
theorem dq_wt {q : Rat} (h : Part q) : PyData.weight (dq q) ≤ 44 := by
  obtain ⟨h1, h2, h3⟩ := part_num h
  have a := wt_int (i := q.num) (by omega)
  have b := wt_int (i := (q.den : Int)) (by omega)
  show PyData.weight (.int q.num) + 1 + (PyData.weight (.int (q.den : Int)) + 1 + 0) ≤ 44
  omega
theorem goes_wt : ∀ {l : List Fz}, (∀ z ∈ l, Part z.2) → PyData.weightAll (l.map fun z => dq z.2) ≤ 45 * l.length
  | [], _ => Nat.zero_le _
  | z :: l, p => by
    have a := dq_wt (p z List.mem_cons_self)
    have b := goes_wt (l := l) fun y hy => p y (List.mem_cons_of_mem _ hy)
    show PyData.weight (dq z.2) + 1 + PyData.weightAll (l.map fun z => dq z.2) ≤ 45 * (l.length + 1)
    omega
theorem kinds_wa {K : PySem.W.Frag} {H : Hp} {n : Nat} (n6 : n ≤ 6) : ∀ {ks : List Kn}, KnL K H n ks → PyData.weightAll (ks.map kindE) ≤ 340 * ks.length
  | [], _ => Nat.zero_le _
  | k :: ks, h => by
    have o := h k List.mem_cons_self
    have h0 := o.f0
    have h1 := o.f1
    have a := wt_int (i := k.fresh) (by omega)
    have b := dq_wt o.pd
    have c := goes_wt o.go.pa
    have l := o.go.len
    have d := kinds_wa n6 (ks := ks) fun y hy => h y (List.mem_cons_of_mem _ hy)
    show (PyData.weight (.int k.fresh) + 1 + (PyData.weight (dq k.drip) + 1 + (PyData.weightAll (k.goes.map fun z => dq z.2) + 1 + 0))) + 1 + PyData.weightAll (ks.map kindE) ≤ 340 * (ks.length + 1)
    omega
/-- things, and texts of any length -/
def TgS (K : PySem.W.Frag) (Av : Addr → Prop) (H : Hp) (B n : Nat) (v : V) (d : PyData) : Prop := Tg K Av H B n v d ∨ ∃ x : Str, v = .str x ∧ d = .str x
theorem TgS.kl {K : PySem.W.Frag} {Av : Addr → Prop} {H : Hp} {B n : Nat} {v : V} {d : PyData} (h : TgS K Av H B n v d) : ∃ t : String, TyX K H v (.type t) ∧ kitB t "list" = some (isL d) ∧ kitB t "tuple" = some (isT d) := by
  rcases h with h | ⟨x, rfl, rfl⟩
  · obtain ⟨t, h1, h2, h3, _⟩ := h.ty
    exact ⟨t, h1, h2, h3⟩
  · exact ⟨"str", .base (.str x), by show kitB "str" "list" = some false; decide +kernel, by show kitB "str" "tuple" = some false; decide +kernel⟩
theorem TgS.tg {K : PySem.W.Frag} {Av : Addr → Prop} {H : Hp} {B n : Nat} {v : V} {d : PyData} (h : TgS K Av H B n v d) (e : isL d = true ∨ isT d = true) : Tg K Av H B n v d := by
  rcases h with h | ⟨x, rfl, rfl⟩
  · exact h
  · rcases e with e | e <;> cases e
theorem TgS.sm {K : PySem.W.Frag} {Av : Addr → Prop} {H H' : Hp} {B n : Nat} {v : V} {d : PyData} (h : TgS K Av H B n v d) (s : Sm H H') : TgS K Av H' B n v d := h.imp (fun t => t.sm s) id
theorem TgS.dp {K : PySem.W.Frag} {Av : Addr → Prop} {H : Hp} {B n : Nat} {v : V} {d : PyData} (h : TgS K Av H B n v d) : Dp K H v d := by
  rcases h with h | ⟨x, rfl, rfl⟩
  · exact h.dp
  · exact .str x
end KR
namespace KR
open PySem PySem.Spec PyProof.Rows L2
theorem TgAll.dps_ {K : PySem.W.Frag} {Av : Addr → Prop} {H : Hp} {B n : Nat} : ∀ {xs : List V} {ds : List PyData}, TgAll K Av H B n xs ds → DpAll K H xs ds
  | [], [], _ => .nil
  | [], _ :: _, h => by have := h.1; cases this
  | _ :: _, [], h => by have := h.1; cases this
  | _ :: _, _ :: _, h => .cons h.tail.1.dp h.tail.2.dps_
theorem ixN_at' {n i : Nat} (h : i < n) : ixN n (i : Int) = some i := by
  unfold ixN
  rw [if_pos (by omega), if_pos (by omega), Int.toNat_natCast]
end KR
/-! ### str of data with long numbers; how long what is told of kinds is -/
namespace KR
open PySem PySem.Spec PyProof.Rows L2
structure Sho (k w : Nat) (d : PyData) : Prop where
  dep : PyData.depth d ≤ k
  wt : PyData.weight d ≤ w
  lv : PyData.leavesShort 310 d = true
  sh : PyData.showable d = true
  nd : PyData.hasDict d = false
structure ShoAll (k w : Nat) (ds : List PyData) : Prop where
  dep : PyData.depthAll ds ≤ k
  wt : PyData.weightAll ds ≤ w
  lv : PyData.leavesShortAll 310 ds = true
  sh : PyData.showableAll ds = true
  nd : PyData.hasDictAll ds = false
theorem ShoAll.nil (k w : Nat) : ShoAll k w [] := ⟨Nat.zero_le _, Nat.zero_le _, rfl, rfl, rfl⟩
theorem ShoAll.cons {k a b : Nat} {d : PyData} {ds : List PyData} (h : Sho k a d) (t : ShoAll k b ds) : ShoAll k (a + 1 + b) (d :: ds) := by
  refine ⟨?_, ?_, ?_, ?_, ?_⟩
  · show max (PyData.depth d) (PyData.depthAll ds) ≤ k
    have := h.dep
    have := t.dep
    omega
  · show PyData.weight d + 1 + PyData.weightAll ds ≤ a + 1 + b
    have := h.wt
    have := t.wt
    omega
  · show (PyData.leavesShort 310 d && PyData.leavesShortAll 310 ds) = true
    rw [h.lv, t.lv] <;> rfl
  · show (PyData.showable d && PyData.showableAll ds) = true
    rw [h.sh, t.sh] <;> rfl
  · show (PyData.hasDict d || PyData.hasDictAll ds) = false
    rw [h.nd, t.nd] <;> rfl
theorem ShoAll.lst {k w : Nat} {ds : List PyData} (t : ShoAll k w ds) : Sho (k + 1) w (.list ds) := ⟨Nat.succ_le_succ t.dep, t.wt, t.lv, t.sh, t.nd⟩
theorem ShoAll.tup {k w : Nat} {ds : List PyData} (t : ShoAll k w ds) : Sho (k + 1) w (.tuple ds) := ⟨Nat.succ_le_succ t.dep, t.wt, t.lv, t.sh, t.nd⟩
theorem Sho.up {k k' w w' : Nat} {d : PyData} (h : Sho k w d) (h1 : k ≤ k') (h2 : w ≤ w') : Sho k' w' d := ⟨Nat.le_trans h.dep h1, Nat.le_trans h.wt h2, h.lv, h.sh, h.nd⟩
theorem ShoAll.up {k k' w w' : Nat} {d : List PyData} (h : ShoAll k w d) (h1 : k ≤ k') (h2 : w ≤ w') : ShoAll k' w' d := ⟨Nat.le_trans h.dep h1, Nat.le_trans h.wt h2, h.lv, h.sh, h.nd⟩
theorem Sho.non (k w : Nat) : Sho k w .none := ⟨Nat.zero_le _, Nat.zero_le _, rfl, rfl, rfl⟩
theorem Sho.bl (k w : Nat) (b : Bool) : Sho k w (.bool b) := ⟨Nat.zero_le _, Nat.zero_le _, rfl, rfl, rfl⟩
theorem two1000 : (2 : Nat) ^ 1000 < 10 ^ 302 := by decide +kernel
theorem Sho.int {i : Int} (k : Nat) (h : i.natAbs < 2 ^ 1000) : Sho k 1001 (.int i) := by
  have lg : i.natAbs.log2 < 1000 := by
    by_cases c : i.natAbs = 0
    · rw [c]
      decide
    · exact (Nat.log2_lt c).mpr h
  refine ⟨Nat.zero_le _, ?_, ?_, decide_eq_true (Nat.lt_trans lg (by decide)), rfl⟩
  · show (if i == 0 then 0 else i.natAbs.log2 + 1) ≤ 1001
    split <;> omega
  · refine decide_eq_true ?_
    rw [PyData.shown_int]
    have e := int_text_length_le10 (a := i) (k := 302) (by decide) (Nat.lt_trans h two1000)
    show (Str.ofString (toString i)).length ≤ 310
    rw [PySem.ofString_length]
    exact Nat.le_trans e (by decide)
theorem Sho.line {k w : Nat} {d : PyData} (h : Sho k w d) (hw : w ≤ 50000) : d.shown.length ≤ sizeLine := by
  have wt := h.wt
  have e := PyData.shown_le 310 (by decide) d h.lv
  have s : (sizeLine : Nat) = 16777216 := sizeLine_eq
  rw [s]
  omega
def rStrW (K : PySem.W.Frag) : List V → Hp → VK → Prop := fun xs H Q => ∃ (v : V) (d : PyData) (k w : Nat), xs = [v] ∧ Dp K H v d ∧ Sho k w d ∧ k ≤ 60 ∧ w ≤ 50000 ∧ Q (.str (strD d)) H
theorem cr_strW {X : Cx} {K : PySem.W.Frag} (hK : X.K = K) (hg : X.A.guards = some []) (hu : X.A.units + 64 < cLine) : CallR X (.type "str") (rStrW K) := by
  subst hK
  intro pn s σ H xs us Q I r want
  obtain ⟨v, d, k, w, rfl, dp, f, hk, hw, q⟩ := want
  have len := f.line hw
  have dep := f.dep
  cases r with
  | cons r1 r2 =>
    cases r2
    cases dp with
    | non =>
      cases r1
      exact PySem.P.str_of_none ⟨.str _, H, I.tok _, ⟨_, rfl⟩, q⟩
    | bl b =>
      cases r1
      exact PySem.P.str_of_bool ⟨.str _, H, I.tok _, ⟨_, rfl⟩, q⟩
    | int i =>
      obtain ⟨t, rfl⟩ := r1
      exact PySem.P.str_of_int (of_decide_eq_true f.sh) ⟨.str _, H, I.tok _, ⟨_, rfl⟩, q⟩
    | str x =>
      obtain ⟨t, rfl⟩ := r1
      exact PySem.P.str_of_str ⟨.str _, H, I, ⟨_, rfl⟩, q⟩
    | lst a1 a2 =>
      obtain ⟨as, rd⟩ := Dp.reads I _ _ _ (Dp.lst a1 a2) r1
      cases r1
      exact str_of_reads rd f.sh (PyData.noDict_hsm f.nd) hg (by omega) (fun _ _ e => e) (fun h' u tk hkk => ⟨.str _, H, I.kept (fun b o e => hkk b o e), ⟨_, rfl⟩, q⟩) len
    | tup a1 a2 =>
      obtain ⟨as, rd⟩ := Dp.reads I _ _ _ (Dp.tup a1 a2) r1
      cases r1
      exact str_of_reads rd f.sh (PyData.noDict_hsm f.nd) hg (by omega) (fun _ _ e => e) (fun h' u tk hkk => ⟨.str _, H, I.kept (fun b o e => hkk b o e), ⟨_, rfl⟩, q⟩) len
theorem Sho.frac {q : Rat} (h : Sz 1000 q) : Sho 1 2004 (dq q) := (ShoAll.cons (Sho.int 0 h.1) (.cons (Sho.int 0 h.2) (.nil 0 0))).tup
theorem Sho.fracs : ∀ {l : List Rat}, (∀ q ∈ l, Sz 1000 q) → ShoAll 1 (2005 * l.length) (l.map dq)
  | [], _ => .nil _ _
  | q :: l, h => ((ShoAll.cons (Sho.frac (h q List.mem_cons_self)) (Sho.fracs fun y hy => h y (List.mem_cons_of_mem _ hy)))).up (Nat.le_refl _) (by rw [List.length_cons]; omega)
/-- there is a greatest set of kinds that lose nothing -/
theorem great_ex (ks : List Kq) : ∃ P, Great ks P := by
  have le : ∀ P : Nat → Bool, (psF P ks.length).length ≤ ks.length := fun P => by
    have := List.length_filter_le P (List.range ks.length)
    rw [List.length_range] at this
    exact this
  have go : ∀ (m : Nat) (P : Nat → Bool), FinK ks P → ks.length - (psF P ks.length).length ≤ m → ∃ P', Great ks P' := fun m => by
    induction m with
    | zero =>
      intro P f h
      exact ⟨P, Great.most f fun S _ => Nat.le_trans (le S) (by omega)⟩
    | succ m ih =>
      intro P f h
      by_cases c : ∀ S, FinK ks S → (psF S ks.length).length ≤ (psF P ks.length).length
      · exact ⟨P, Great.most f c⟩
      · obtain ⟨S, s, lt⟩ : ∃ S, FinK ks S ∧ (psF P ks.length).length < (psF S ks.length).length := Classical.byContradiction fun no => c fun S s => Nat.le_of_not_lt fun lt => no ⟨S, s, lt⟩
        exact ih S s (by omega)
  exact go _ (fun _ => false) ⟨fun _ _ h => (nomatch h), fun _ _ h => (nomatch h), fun _ _ h => (nomatch h)⟩ (Nat.le_refl _)
/-! sizes of what is told -/
section
variable {ks : List Kq} {a : List Rat} (O : KsOk ks) (ha : ∀ q ∈ a, AmS q) (la : a.length = ks.length)
include O ha la
theorem sz_rounds {r : Nat} (hr : r ≤ 3) : ∀ q ∈ roundsQ ks r a, Sz 1000 q := fun q hq => by
  obtain ⟨M, m1, m0, h⟩ := rounds6 O ha la
  have k := (h r (by omega)).1
  have b := bR_mono 1000 hr
  exact (k.dv q hq).szN k.hM (k.lo q hq) (k.hi q hq) k.hB (Nat.lt_of_le_of_lt (Nat.mul_le_mul b (Nat.mul_le_mul m1 (Nat.pow_le_pow_right (by decide) hr))) (by decide +kernel : bR 1000 3 * (60 ^ 6 * 768398400 ^ 3) < 2 ^ 1000))
theorem gap_first : GapOk a (onceQ ks a) ∧ Sz 1000 (gapQ a (onceQ ks a)) := by
  obtain ⟨M, m1, m0, h⟩ := rounds6 O ha la
  have h0 := (h 0 (by decide)).2
  have h1 := (h 1 (by decide)).2
  have k0 := (h 0 (by decide)).1
  have k1 := (h 1 (by decide)).1
  have l6 := O.l6
  refine ⟨h0.gap h1 (by show a.length ≤ 6; omega) (Nat.lt_of_le_of_lt (Nat.mul_le_mul_left _ (Nat.mul_le_mul (Nat.mul_le_mul_right _ m1) (Nat.mul_le_mul_right _ m1))) (by decide +kernel : 20 * (bR 1000 41 + bR 1000 41) * (60 ^ 6 * 768398400 ^ 41 * (60 ^ 6 * 768398400 ^ 41)) < 2 ^ 4400)), ?_⟩
  have all : ∀ r ∈ gapsQ a (onceQ ks a), Dv (M * 768398400 ^ 1) r ∧ 0 ≤ r ∧ r ≤ ((bR 1000 0 + bR 1000 1 : Nat) : Int) := fun r hr => by
    obtain ⟨x, hx, y, hy, rfl⟩ := gaps_mem hr
    have dx : Dv (M * 768398400 ^ 1) x := (k0.dv x hx).up (Nat.mul_dvd_mul_left _ (Nat.pow_dvd_pow _ (by decide)))
    refine ⟨(dx.sub (k1.dv y hy)).abs, absQ_nn _, ?_⟩
    have x1 := k0.hi x hx
    have y1 := k1.hi y hy
    have x0 := k0.lo x hx
    have y0 := k1.lo y hy
    have b0 := cast_nn (show (0 : Int) ≤ (bR 1000 0 : Int) by omega)
    have c0 := cast_nn (show (0 : Int) ≤ (bR 1000 1 : Int) by omega)
    rw [Int.natCast_add, Rat.intCast_add]
    refine absQ_le ?_ ?_ <;> grind
  have s : zsum (gapsQ a (onceQ ks a)) ≤ ((6 * (bR 1000 0 + bR 1000 1) : Nat) : Int) := by
    have z := zsum_le fun r hr => (all r hr).2.2
    rw [← Rat.intCast_mul] at z
    refine Rat.le_trans z (Rat.intCast_le_intCast.mpr ?_)
    have len : (gapsQ a (onceQ ks a)).length ≤ 6 := by
      unfold gapsQ
      rw [List.length_zipWith]
      omega
    have := Nat.mul_le_mul_right (bR 1000 0 + bR 1000 1) len
    rw [← Int.natCast_mul]
    omega
  exact (Dv.all fun r hr => (all r hr).1).szN (Nat.mul_pos m0 (by decide)) (zsum_nn fun r hr => (all r hr).2.1) s (by decide) (Nat.lt_of_le_of_lt (Nat.mul_le_mul_left _ (Nat.mul_le_mul_right _ m1)) (by decide +kernel : 6 * (bR 1000 0 + bR 1000 1) * (60 ^ 6 * 768398400 ^ 1) < 2 ^ 1000))
theorem am0 : ∃ M, M ≤ 60 ^ 6 ∧ AmOk M 1000 a := by
  obtain ⟨M, m1, m0, h⟩ := rounds6 O ha la
  refine ⟨M, m1, ?_⟩
  have := (h 0 (by decide)).1
  rw [Nat.pow_zero, Nat.mul_one] at this
  exact this
theorem sz_loaves (hp : ∀ k ∈ ks, Part k.drip) : ∀ q ∈ loavesQ ks a, Sz 1000 q := fun q hq => by
  obtain ⟨M, m1, ok⟩ := am0 O ha la
  obtain ⟨y, hy, k, hk, rfl⟩ := zw_mem hq
  obtain ⟨c1, c2, c3⟩ := ok.loaf hy (hp k hk)
  exact c1.szN (Nat.mul_pos ok.hM (by decide)) c2 c3 ok.hB (Nat.lt_of_le_of_lt (Nat.mul_le_mul_left _ (Nat.mul_le_mul_right _ m1)) (by decide +kernel : 1000 * (60 ^ 6 * 768398400) < 2 ^ 1000))
end
theorem sz_sol {ks : List Kq} {y : Nat → Rat} (O : KsOk ks) (l4 : ks.length ≤ 4) (s : Sta 6000000 ks.length 0 ks.length (initA ks) y) : ∀ q ∈ solQ ks, Sz 1000 q := fun q hq => by
  obtain ⟨D, d1, k⟩ := sol_amb O s
  have v4 : vS ks.length ≤ vS 4 := by
    have cs : ks.length = 0 ∨ ks.length = 1 ∨ ks.length = 2 ∨ ks.length = 3 ∨ ks.length = 4 := by omega
    rcases cs with e | e | e | e | e <;> rw [e] <;> decide +kernel
  have f4 : fS ks.length ≤ fS 4 := by
    have cs : ks.length = 0 ∨ ks.length = 1 ∨ ks.length = 2 ∨ ks.length = 3 ∨ ks.length = 4 := by omega
    rcases cs with e | e | e | e | e <;> rw [e] <;> decide +kernel
  exact (k.dv q hq).szN k.hM (k.lo q hq) (k.hi q hq) k.hB (Nat.lt_of_le_of_lt (Nat.mul_le_mul (Nat.mul_le_mul_left _ v4) (Nat.le_trans d1 f4)) (by decide +kernel : 6000000 * vS 4 * fS 4 < 2 ^ 1000))
end KR
/-! ### all plans of a small day, as tables of sums -/
namespace KR
open PySem PySem.Spec PyProof.Rows L2
abbrev Tbl := List (List Int)
def rowT (Xs : Tbl) (p : Nat) : List Int := Xs.getD p []
theorem rowT_at {Xs : Tbl} {p : Nat} {xs : List Int} (h : Xs[p]? = some xs) : rowT Xs p = xs := by
  unfold rowT
  rw [List.getD_eq_getElem?_getD, h] <;> rfl
def firstT (D : Dy) (S : Tbl) (p t : Nat) : Int := if p = 0 then csum D (t + 1) else (rowT S (p - 1)).getD t 0
def mayT (D : Dy) (p t : Nat) : Int := if p = D.ks.length then D.ss.getD t 0 else (kt D p).2.getD t 0
def mostT (D : Dy) (S : Tbl) (p t : Nat) : Int := if p < D.ks.length then min (firstT D S p t - (rowT S p).getD t 0) ((kt D p).1 + (rowT S (p + 1)).getD (t + 1) 0 - (rowT S p).getD t 0) else firstT D S p t - (rowT S p).getD t 0
def putT (S : Tbl) (p t : Nat) (x : Int) : Tbl := S.set p (rowT S p ++ [(rowT S p).getD t 0 + x])
def extT (D : Dy) (p t : Nat) (S : Tbl) : List Tbl := (List.range (min (mostT D S p t) (mayT D p t) + 1).toNat).map fun x : Nat => putT S p t (x : Int)
def genP (D : Dy) (t : Nat) (F : List Tbl) : Nat → List Tbl
  | 0 => F
  | j + 1 => (genP D t F j).flatMap (extT D (D.ks.length - j) t)
def genH (D : Dy) : Nat → List Tbl
  | 0 => [List.replicate (D.ks.length + 1) [0]]
  | t + 1 => genP D t (genH D t) (D.ks.length + 1)
def lenT (D : Dy) (t j p : Nat) : Nat := if D.ks.length < p + j then t + 2 else t + 1
def topR (D : Dy) (n p : Nat) : List Int := (List.range n).map fun u => tk D u p
def topT (D : Dy) (t j : Nat) : Tbl := (List.range (D.ks.length + 1)).map fun p => topR D (lenT D t j p) p
theorem topR_len (D : Dy) (n p : Nat) : (topR D n p).length = n := by
  unfold topR
  rw [List.length_map, List.length_range]
theorem topR_get {D : Dy} {n p u : Nat} (h : u < n) : (topR D n p).getD u 0 = tk D u p := by
  unfold topR
  rw [List.getD_eq_getElem?_getD, List.getElem?_map, List.getElem?_range h] <;> rfl
theorem topT_at {D : Dy} {t j p : Nat} (h : p ≤ D.ks.length) : (topT D t j)[p]? = some (topR D (lenT D t j p) p) := by
  unfold topT
  rw [List.getElem?_map, List.getElem?_range (by omega)] <;> rfl
theorem topT_F {D : Dy} {t j p : Nat} (h : p ≤ D.ks.length) : rowT (topT D t j) p = topR D (lenT D t j p) p := rowT_at (topT_at h)
theorem topT_len (D : Dy) (t j : Nat) : (topT D t j).length = D.ks.length + 1 := by
  unfold topT
  rw [List.length_map, List.length_range]
structure Shape (D : Dy) (t j : Nat) (S : Tbl) : Prop where
  len : S.length = D.ks.length + 1
  row : ∀ p, p ≤ D.ks.length → (rowT S p).length = lenT D t j p
  val : ∀ p u, p ≤ D.ks.length → u < lenT D t j p → 0 ≤ (rowT S p).getD u 0 ∧ (rowT S p).getD u 0 ≤ tk D u p
theorem rowT_set_ne {S : Tbl} {p q : Nat} {r : List Int} (h : q ≠ p) : rowT (S.set p r) q = rowT S q := by
  unfold rowT
  rw [List.getD_eq_getElem?_getD, List.getD_eq_getElem?_getD, List.getElem?_set, if_neg (fun z => h z.symm)]
theorem rowT_set_eq {S : Tbl} {p : Nat} {r : List Int} (h : p < S.length) : rowT (S.set p r) p = r := by
  unfold rowT
  rw [List.getD_eq_getElem?_getD, List.getElem?_set, if_pos rfl, if_pos h] <;> rfl
theorem rowT_get {S : Tbl} {p : Nat} (h : p < S.length) : S[p]? = some (rowT S p) := by
  unfold rowT
  rw [List.getD_eq_getElem?_getD, List.getElem?_eq_getElem h] <;> rfl
/-- no plan has more -/
theorem ext_shape {D : Dy} {t j : Nat} {S S' : Tbl} (hj : j ≤ D.ks.length) (k1 : 1 ≤ D.ks.length) (h : Shape D t j S) (m : S' ∈ extT D (D.ks.length - j) t S) : Shape D t (j + 1) S' := by
  unfold extT at m
  obtain ⟨x, hx, rfl⟩ := List.mem_map.mp m
  have hx := List.mem_range.mp hx
  generalize ep : D.ks.length - j = p at hx
  have hp : p ≤ D.ks.length := by omega
  have hl : p < S.length := by rw [h.len]; omega
  have lp : lenT D t j p = t + 1 := if_neg (by omega)
  have lp' : lenT D t (j + 1) p = t + 2 := if_pos (by omega)
  have lq : ∀ q, q ≠ p → q ≤ D.ks.length → lenT D t (j + 1) q = lenT D t j q := fun q hq hk => by
    unfold lenT
    by_cases c : D.ks.length < q + j
    · rw [if_pos c, if_pos (by omega)]
    · rw [if_neg c, if_neg (by omega)]
  have v0 := h.val p t hp (by rw [lp]; omega)
  have xm : (x : Int) ≤ mostT D S p t := by omega
  have xy : (x : Int) ≤ mayT D p t := by omega
  unfold putT
  refine ⟨by rw [List.length_set]; exact h.len, fun q hq => ?_, fun q u hq hu => ?_⟩
  · by_cases c : q = p
    · subst c
      rw [rowT_set_eq hl, List.length_append, h.row q hq, lp, lp'] <;> rfl
    · rw [rowT_set_ne c, h.row q hq, lq q c hq]
  · by_cases c : q = p
    · subst c
      rw [rowT_set_eq hl]
      rw [lp'] at hu
      have lr := h.row q hq
      rw [lp] at lr
      by_cases cu : u < t + 1
      · rw [List.getD_eq_getElem?_getD, List.getElem?_append_left (by omega), ← List.getD_eq_getElem?_getD]
        exact h.val q u hq (by rw [lp]; exact cu)
      · obtain rfl : u = t + 1 := by omega
        rw [List.getD_eq_getElem?_getD, List.getElem?_append_right (by omega), lr, Nat.sub_self]
        show 0 ≤ (rowT S q).getD t 0 + (x : Int) ∧ (rowT S q).getD t 0 + (x : Int) ≤ tk D (t + 1) q
        have f1 : firstT D S q t ≤ if q = 0 then csum D (t + 1) else tk D t (q - 1) := by
          unfold firstT
          by_cases c0 : q = 0
          · rw [if_pos c0, if_pos c0]
            exact Int.le_refl _
          · rw [if_neg c0, if_neg c0]
            exact (h.val (q - 1) t (by omega) (by unfold lenT; split <;> omega)).2
        refine ⟨by omega, ?_⟩
        by_cases cK : q = D.ks.length
        · subst cK
          have a := tk_last D t
          unfold mostT at xm
          unfold mayT at xy
          rw [if_neg (Nat.lt_irrefl _)] at xm
          rw [if_pos rfl] at xy
          rw [if_neg (by omega)] at f1
          omega
        · have a := tk_at (D := D) (t := t) (p := q) (by omega)
          unfold mostT at xm
          unfold mayT at xy
          rw [if_pos (by omega)] at xm
          rw [if_neg cK] at xy
          have g := (h.val (q + 1) (t + 1) (by omega) (by unfold lenT; rw [if_pos (by omega)]; omega)).2
          omega
    · rw [rowT_set_ne c]
      exact h.val q u hq (by rw [← lq q c hq]; exact hu)
theorem genP_shape {D : Dy} {t : Nat} {F : List Tbl} (k1 : 1 ≤ D.ks.length) (h : ∀ S ∈ F, Shape D t 0 S) : ∀ j, j ≤ D.ks.length + 1 → ∀ S ∈ genP D t F j, Shape D t j S
  | 0, _, S, m => h S m
  | j + 1, hj, S, m => by
    obtain ⟨S0, m0, m1⟩ := List.mem_flatMap.mp (show S ∈ (genP D t F j).flatMap (extT D (D.ks.length - j) t) from m)
    exact ext_shape (by omega) k1 (genP_shape k1 h j (by omega) S0 m0) m1
theorem shape_next {D : Dy} {t : Nat} {S : Tbl} (h : Shape D t (D.ks.length + 1) S) : Shape D (t + 1) 0 S := by
  have e : ∀ p, p ≤ D.ks.length → lenT D (t + 1) 0 p = lenT D t (D.ks.length + 1) p := fun p hp => by
    unfold lenT
    rw [if_neg (by omega), if_pos (by omega)]
  exact ⟨h.len, fun p hp => by rw [h.row p hp, e p hp], fun p u hp hu => h.val p u hp (by rw [← e p hp]; exact hu)⟩
theorem genH_shape {D : Dy} (k1 : 1 ≤ D.ks.length) : ∀ t, ∀ S ∈ genH D t, Shape D t 0 S
  | 0, S, m => by
    rw [List.mem_singleton.mp m]
    have e : ∀ p, p ≤ D.ks.length → rowT (List.replicate (D.ks.length + 1) [(0 : Int)]) p = [0] := fun p hp => rowT_at (by rw [List.getElem?_replicate, if_pos (by omega)])
    refine ⟨List.length_replicate, fun p hp => ?_, fun p u hp hu => ?_⟩
    · rw [e p hp]
      exact (if_neg (by omega)).symm
    · rw [e p hp]
      have hu : u < 1 := by
        have : lenT D 0 0 p = 1 := if_neg (by omega)
        omega
      obtain rfl : u = 0 := by omega
      rw [tk_zero]
      exact ⟨Int.le_refl _, Int.le_refl _⟩
  | t + 1, S, m => shape_next (genP_shape k1 (genH_shape k1 t) _ (Nat.le_refl _) S m)
/-- how often the greatest is among them: once -/
theorem cnt_flat {α β : Type} [BEq α] [LawfulBEq α] [BEq β] {g : α → List β} {G : α} {a : β} (h1 : (g G).count a = 1) : ∀ {F : List α}, (∀ S ∈ F, S ≠ G → (g S).count a = 0) → (F.flatMap g).count a = F.count G
  | [], _ => rfl
  | S :: F, h => by
    rw [List.flatMap_cons, List.count_append, List.count_cons, cnt_flat h1 fun S hS => h S (List.mem_cons_of_mem _ hS)]
    rcases Classical.em (S = G) with c | c
    · subst c
      rw [h1, if_pos (by simp)]
      omega
    · rw [h S List.mem_cons_self c, if_neg (by simpa using c)]
      omega
theorem cnt_one {α : Type} [BEq α] [LawfulBEq α] {a : α} : ∀ {l : List α}, l.Nodup → a ∈ l → l.count a = 1
  | [], _, m => absurd m List.not_mem_nil
  | x :: l, nd, m => by
    obtain ⟨n1, n2⟩ := List.nodup_cons.mp nd
    rw [List.count_cons]
    rcases Classical.em (x = a) with c | c
    · subst c
      rw [List.count_eq_zero.mpr n1, if_pos (by simp)]
    · rw [if_neg (by simpa using c)]
      rcases List.mem_cons.mp m with e | m
      · exact absurd e.symm c
      · exact cnt_one n2 m
theorem top_step {D : Dy} {t j : Nat} (hj : j ≤ D.ks.length) : putT (topT D t j) (D.ks.length - j) t (tk D (t + 1) (D.ks.length - j) - tk D t (D.ks.length - j)) = topT D t (j + 1) := by
  generalize ep : D.ks.length - j = p
  have hp : p ≤ D.ks.length := by omega
  have lp : lenT D t j p = t + 1 := if_neg (by omega)
  have lp' : lenT D t (j + 1) p = t + 2 := if_pos (by omega)
  unfold putT
  rw [topT_F hp, lp, topR_get (by omega), show tk D t p + (tk D (t + 1) p - tk D t p) = tk D (t + 1) p by omega]
  refine List.ext_getElem? fun q => ?_
  rw [List.getElem?_set]
  by_cases c : p = q
  · subst c
    rw [if_pos rfl, if_pos (by rw [topT_len]; omega), topT_at hp, lp']
    congr 1
    unfold topR
    rw [List.range_succ (n := t + 1), List.map_append] <;> rfl
  · rw [if_neg c]
    by_cases hq : q ≤ D.ks.length
    · rw [topT_at hq, topT_at hq]
      congr 2
      unfold lenT
      by_cases c2 : D.ks.length < q + j
      · rw [if_pos c2, if_pos (by omega)]
      · rw [if_neg c2, if_neg (by omega)]
    · rw [List.getElem?_eq_none (by rw [topT_len]; omega), List.getElem?_eq_none (by rw [topT_len]; omega)]
theorem top_most {D : Dy} {t j : Nat} (k1 : 1 ≤ D.ks.length) (hj : j ≤ D.ks.length) : min (mostT D (topT D t j) (D.ks.length - j) t) (mayT D (D.ks.length - j) t) = tk D (t + 1) (D.ks.length - j) - tk D t (D.ks.length - j) := by
  generalize ep : D.ks.length - j = p
  have hp : p ≤ D.ks.length := by omega
  have lp : lenT D t j p = t + 1 := if_neg (by omega)
  have g0 : (rowT (topT D t j) p).getD t 0 = tk D t p := by rw [topT_F hp, lp, topR_get (by omega)]
  have f1 : firstT D (topT D t j) p t = if p = 0 then csum D (t + 1) else tk D t (p - 1) := by
    unfold firstT
    by_cases c0 : p = 0
    · rw [if_pos c0, if_pos c0]
    · rw [if_neg c0, if_neg c0, topT_F (by omega), topR_get (by unfold lenT; split <;> omega)]
  unfold mostT mayT
  rw [g0, f1]
  by_cases cK : p = D.ks.length
  · rw [if_neg (by omega), if_pos cK, if_neg (by omega)]
    have a := tk_last D t
    rw [← cK] at a
    omega
  · rw [if_pos (by omega), if_neg cK, topT_F (by omega), topR_get (by unfold lenT; rw [if_pos (by omega)]; omega)]
    have a := tk_at (D := D) (t := t) (p := p) (by omega)
    omega
theorem genP_count {D : Dy} {t : Nat} {F : List Tbl} (N : DyNn D) (k1 : 1 ≤ D.ks.length) (mono : ∀ p, p ≤ D.ks.length → tk D t p ≤ tk D (t + 1) p) (h : ∀ S ∈ F, Shape D t 0 S) (c : F.count (topT D t 0) = 1) : ∀ j, j ≤ D.ks.length + 1 → (genP D t F j).count (topT D t j) = 1
  | 0, _ => c
  | j + 1, hj => by
    have ih := genP_count N k1 mono h c j (by omega)
    have sh := genP_shape k1 h j (by omega)
    have jk : j ≤ D.ks.length := by omega
    have st := top_step (D := D) (t := t) jk
    have tm := top_most (D := D) (t := t) k1 jk
    show ((genP D t F j).flatMap (extT D (D.ks.length - j) t)).count (topT D t (j + 1)) = 1
    generalize ep : D.ks.length - j = p at st tm
    have hp : p ≤ D.ks.length := by omega
    have lp : lenT D t j p = t + 1 := if_neg (by omega)
    have m0 := mono p hp
    refine (cnt_flat (α := Tbl) (β := Tbl) (g := extT D p t) (G := topT D t j) (a := topT D t (j + 1)) ?_ fun S hS ne => ?_).trans ih
    · refine cnt_one ?_ ?_
      · unfold extT
        refine List.nodup_iff_pairwise_ne.mpr ?_
        rw [List.pairwise_map]
        refine List.Pairwise.imp (fun {a b} hab e => ?_) (List.nodup_iff_pairwise_ne.mp List.nodup_range)
        have e2 : rowT (putT (topT D t j) p t (a : Int)) p = rowT (putT (topT D t j) p t (b : Int)) p := by rw [e]
        unfold putT at e2
        rw [rowT_set_eq (by rw [topT_len]; omega), rowT_set_eq (by rw [topT_len]; omega)] at e2
        have e3 := List.append_cancel_left e2
        injection e3 with e3
        exact hab (by omega)
      · unfold extT
        rw [tm]
        refine List.mem_map.mpr ⟨(tk D (t + 1) p - tk D t p).toNat, List.mem_range.mpr (by omega), ?_⟩
        rw [show (((tk D (t + 1) p - tk D t p).toNat : Nat) : Int) = tk D (t + 1) p - tk D t p by omega]
        exact st
    · refine List.count_eq_zero.mpr fun m => ne ?_
      unfold extT at m
      obtain ⟨x, _, e⟩ := List.mem_map.mp m
      have hS' := sh S hS
      unfold putT at e
      refine List.ext_getElem? fun q => ?_
      by_cases hq : q ≤ D.ks.length
      · have e2 : rowT (S.set p (rowT S p ++ [(rowT S p).getD t 0 + (x : Int)])) q = rowT (topT D t (j + 1)) q := by rw [e]
        rw [rowT_get (by rw [hS'.len]; omega), rowT_get (by rw [topT_len]; omega)]
        congr 1
        by_cases c : q = p
        · subst c
          rw [rowT_set_eq (by rw [hS'.len]; omega), topT_F hq, show lenT D t (j + 1) q = t + 1 + 1 from if_pos (by omega)] at e2
          rw [topT_F hq, lp]
          have e3 : topR D (t + 1 + 1) q = topR D (t + 1) q ++ [tk D (t + 1) q] := by
            unfold topR
            rw [List.range_succ, List.map_append] <;> rfl
          rw [e3] at e2
          exact (List.append_inj' e2 rfl).1
        · rw [rowT_set_ne c, topT_F hq] at e2
          rw [e2, topT_F hq]
          congr 1
          unfold lenT
          by_cases c2 : D.ks.length < q + j
          · rw [if_pos c2, if_pos (by omega)]
          · rw [if_neg c2, if_neg (by omega)]
      · rw [List.getElem?_eq_none (by rw [hS'.len]; omega), List.getElem?_eq_none (by rw [topT_len]; omega)]
theorem top_next (D : Dy) (t : Nat) : topT D t (D.ks.length + 1) = topT D (t + 1) 0 := by
  unfold topT
  refine List.map_congr_left fun p hp => ?_
  have := List.mem_range.mp hp
  congr 1
  unfold lenT
  rw [if_pos (by omega), if_neg (by omega)]
theorem top_zero (D : Dy) : topT D 0 0 = List.replicate (D.ks.length + 1) [0] := by
  refine List.eq_replicate_iff.mpr ⟨topT_len D 0 0, fun r hr => ?_⟩
  unfold topT at hr
  obtain ⟨p, hp, rfl⟩ := List.mem_map.mp hr
  have := List.mem_range.mp hp
  rw [show lenT D 0 0 p = 1 from if_neg (by omega)] <;> rfl
theorem genH_count {D : Dy} (N : DyNn D) (k1 : 1 ≤ D.ks.length) (mono : ∀ t p, p ≤ D.ks.length → tk D t p ≤ tk D (t + 1) p) : ∀ t, (genH D t).count (topT D t 0) = 1
  | 0 => by
    rw [top_zero]
    show [List.replicate (D.ks.length + 1) [(0 : Int)]].count _ = 1
    rw [List.count_cons, if_pos (by simp), List.count_nil]
  | t + 1 => by
    have := genP_count N k1 (mono t) (genH_shape k1 t) (genH_count N k1 mono t) (D.ks.length + 1) (Nat.le_refl _)
    rw [top_next] at this
    exact this
/-- there are not too many -/
theorem ext_len {D : Dy} {p t : Nat} {S : Tbl} (h : mayT D p t ≤ 2) : (extT D p t S).length ≤ 3 := by
  unfold extT
  rw [List.length_map, List.length_range]
  omega
theorem flat_len {α β : Type} {g : α → List β} {n : Nat} : ∀ {F : List α}, (∀ S ∈ F, (g S).length ≤ n) → (F.flatMap g).length ≤ F.length * n
  | [], _ => Nat.zero_le _
  | S :: F, h => by
    rw [List.flatMap_cons, List.length_append, List.length_cons, Nat.succ_mul]
    have a := h S List.mem_cons_self
    have b := flat_len (F := F) (n := n) fun S hS => h S (List.mem_cons_of_mem _ hS)
    omega
theorem mem_kt3 {D : Dy} {p : Nat} (h : p < D.ks.length) : kt D p ∈ D.ks := by
  unfold kt
  rw [List.getD_eq_getElem?_getD, List.getElem?_eq_getElem h]
  exact List.getElem_mem h
theorem csum_mono3 {D : Dy} (N : DyNn D) (t : Nat) : csum D t ≤ csum D (t + 1) := by
  unfold csum
  by_cases c : t < D.cs.length
  · rw [take_one (List.getElem?_eq_getElem c), List.sum_append, List.sum_cons, List.sum_nil]
    have := (N.cs _ (List.getElem_mem c)).1
    omega
  · rw [List.take_of_length_le (by omega), List.take_of_length_le (by omega)]
    exact Int.le_refl _
/-- a place has no less an hour later -/
theorem tk_mono3 {D : Dy} (N : DyNn D) (k1 : 1 ≤ D.ks.length) : ∀ t q p, p + q = D.ks.length → tk D t p ≤ tk D (t + 1) p := fun t => by
  induction t with
  | zero =>
    intro q p h
    rw [tk_zero]
    exact (tk_nn N 1 q p h).1
  | succ t ih =>
    intro q
    induction q with
    | zero =>
      intro p h
      have hp : p = D.ks.length := by omega
      subst hp
      have a := tk_last D t
      have b := tk_last D (t + 1)
      have c := ih 1 (D.ks.length - 1) (by omega)
      have d := (ldl_at N.ss (t + 1)).1
      omega
    | succ q ihq =>
      intro p h
      have hp : p < D.ks.length := by omega
      have a := tk_at (D := D) (t := t) hp
      have b := tk_at (D := D) (t := t + 1) hp
      have c := ihq (p + 1) (by omega)
      have k := N.ks _ (mem_kt3 hp)
      have d := (ldl_at k.2.2 (t + 1)).1
      have s := csum_mono3 N (t + 1)
      by_cases c0 : p = 0
      · rw [if_pos c0] at a b
        omega
      · rw [if_neg c0] at a b
        have e := ih (q + 2) (p - 1) (by omega)
        omega
/-! tables as data; how often one is among them -/
def tabD (S : Tbl) : PyData := .list (S.map din)
theorem dins_eqv : ∀ (a b : Tbl), PyData.eqvAll (a.map din) (b.map din) = decide (a = b)
  | [], [] => rfl
  | [], _ :: _ => rfl
  | _ :: _, [] => rfl
  | x :: a, y :: b => by
    show (PyData.eqv (din x) (din y) && PyData.eqvAll (a.map din) (b.map din)) = _
    rw [dins_eqv a b, din_eqv]
    by_cases c : x = y
    · subst c
      by_cases d : a = b
      · subst d
        simp
      · simp [d]
    · simp [c]
theorem tab_eqv (a b : Tbl) : PyData.eqv (tabD a) (tabD b) = decide (a = b) := dins_eqv a b
theorem ints_plain : ∀ ns : List Int, PyData.plainAll (ns.map PyData.int) = true
  | [] => rfl
  | _ :: r => ints_plain r
theorem dins_plain : ∀ S : Tbl, PyData.plainAll (S.map din) = true
  | [] => rfl
  | x :: r => by
    show (PyData.plain (din x) && PyData.plainAll (r.map din)) = true
    rw [dins_plain r]
    show (PyData.plainAll (x.map PyData.int) && true) = true
    rw [ints_plain x] <;> rfl
theorem tabs_plain : ∀ F : List Tbl, PyData.plainAll (F.map tabD) = true
  | [] => rfl
  | x :: r => by
    show (PyData.plainAll (x.map din) && PyData.plainAll (r.map tabD)) = true
    rw [tabs_plain r, dins_plain x] <;> rfl
theorem ints_depth : ∀ ns : List Int, PyData.depthAll (ns.map PyData.int) = 0
  | [] => rfl
  | _ :: r => by
    show max 0 (PyData.depthAll (r.map PyData.int)) = 0
    rw [ints_depth r] <;> rfl
theorem dins_depth : ∀ S : Tbl, PyData.depthAll (S.map din) ≤ 1
  | [] => by decide
  | x :: r => by
    show max (PyData.depthAll (x.map PyData.int) + 1) (PyData.depthAll (r.map din)) ≤ 1
    have := dins_depth r
    rw [ints_depth x]
    omega
def rCntD (K : PySem.W.Frag) : V → List V → Hp → VK → Prop := fun x xs H Q => ∃ (p : Addr) (vs : List V) (ds : List PyData) (y : V) (d : PyData), x = .ref p ∧ xs = [y] ∧ SqL K H p vs ∧ DpAll K H vs ds ∧ Dp K H y d ∧ PyData.plainAll ds = true ∧ PyData.plain d = true ∧ PyData.depth d ≤ 60 ∧ Q (.int ((ds.countP fun z => PyData.eqv z d : Nat) : Int)) H
theorem mt_cntD {X : Cx} {K : PySem.W.Frag} (hK : X.K = K) (hu : X.A.units + 64 < cLine) : MtR X "list.count" (rCntD K) := by
  subst hK
  intro pins s σ H x xs v us Q I rx rxs ask
  obtain ⟨p, vs, ds, y, d, rfl, rfl, hs, hd, hy, p1, p2, dd, q⟩ := ask
  cases rx
  obtain ⟨u, rfl, ru⟩ := rxs.one
  obtain ⟨its, rv, pl, hlen⟩ := I.list hs
  obtain ⟨as, rd⟩ := Dp.readsAll I ds vs _ hd rv
  obtain ⟨bs, rb⟩ := Dp.reads I d y u hy ru
  exact SeqAt.count_list_data pl.isList rd rb p1 p2 (by omega) ⟨.int _, H, I.tok _, ⟨_, rfl⟩, q⟩
theorem tab_cnt (G : Tbl) : ∀ F : List Tbl, (F.map tabD).countP (fun z => PyData.eqv z (tabD G)) = F.count G
  | [] => rfl
  | S :: F => by
    rw [List.map_cons, List.countP_cons, tab_cnt G F, List.count_cons, tab_eqv]
    rcases Classical.em (S = G) with c | c
    · rw [decide_eq_true c, if_pos rfl, if_pos (by simpa using c)]
    · rw [decide_eq_false c, if_neg Bool.false_ne_true, if_neg (by simpa using c)]
/-! where tables stand: none of their lists is f, which is written, and all were made behind H0 -/
def RwAt (H0 H : Hp) (f r : Addr) (ns : List Int) : Prop := H r = some (.lst (ns.map V.int)) ∧ r ≠ f ∧ H0 r = none
def TbAt (H0 H : Hp) (f a : Addr) (S : Tbl) : Prop := ∃ rs : List Addr, H a = some (.lst (rs.map V.ref)) ∧ a ≠ f ∧ H0 a = none ∧ Paired (RwAt H0 H f) rs S
def TbL (H0 H : Hp) (f : Addr) (as : List Addr) (F : List Tbl) : Prop := Paired (TbAt H0 H f) as F
theorem pair_map {α β : Type} {R R' : α → β → Prop} (m : ∀ a b, R a b → R' a b) {as : List α} {bs : List β} (h : Paired R as bs) : Paired R' as bs := by
  induction h with
  | nil => exact .nil
  | cons a _ ih => exact .cons (m _ _ a) ih
theorem pair_app {α β : Type} {R : α → β → Prop} {as cs : List α} {bs ds : List β} (h : Paired R as bs) (k : Paired R cs ds) : Paired R (as ++ cs) (bs ++ ds) := by
  induction h with
  | nil => exact k
  | cons a _ ih => exact .cons a ih
theorem pair_get {α β : Type} {R : α → β → Prop} : ∀ {as : List α} {bs : List β}, Paired R as bs → ∀ {i : Nat} {a : α}, as[i]? = some a → ∃ b, bs[i]? = some b ∧ R a b
  | [], _, _, i, _, e => by simp at e
  | _ :: _, _, .cons a h, 0, _, e => by cases e; exact ⟨_, rfl, a⟩
  | _ :: _, _, .cons _ h, i + 1, _, e => pair_get h (i := i) e
theorem pair_getR {α β : Type} {R : α → β → Prop} : ∀ {as : List α} {bs : List β}, Paired R as bs → ∀ {i : Nat} {b : β}, bs[i]? = some b → ∃ a, as[i]? = some a ∧ R a b
  | _, [], _, i, _, e => by simp at e
  | _, _ :: _, .cons a h, 0, _, e => by cases e; exact ⟨_, rfl, a⟩
  | _, _ :: _, .cons _ h, i + 1, _, e => pair_getR h (i := i) e
theorem pair_set {α β : Type} {R : α → β → Prop} : ∀ {as : List α} {bs : List β}, Paired R as bs → ∀ {i : Nat} {a : α} {b : β}, R a b → Paired R (as.set i a) (bs.set i b)
  | [], [], .nil, _, _, _, _ => .nil
  | _ :: _, _ :: _, .cons _ h, 0, _, _, r => .cons r h
  | _ :: _, _ :: _, .cons a h, i + 1, _, _, r => .cons a (pair_set h (i := i) r)
theorem RwAt.fr {H0 H H' : Hp} {f r : Addr} {ns : List Int} (h : RwAt H0 H f r ns) (F : Fr f H H') : RwAt H0 H' f r ns := ⟨F _ _ h.2.1 h.1, h.2⟩
theorem RwAt.to {H0 H : Hp} {f g r : Addr} {ns : List Int} (h : RwAt H0 H f r ns) (n : H g = none) : RwAt H0 H g r ns := ⟨h.1, ne_of_none h.1 n, h.2.2⟩
theorem TbAt.fr {H0 H H' : Hp} {f a : Addr} {S : Tbl} (h : TbAt H0 H f a S) (F : Fr f H H') : TbAt H0 H' f a S := by
  obtain ⟨rs, h1, h2, h0, h3⟩ := h
  exact ⟨rs, F _ _ h2 h1, h2, h0, pair_map (fun _ _ z => z.fr F) h3⟩
theorem TbAt.to {H0 H : Hp} {f g a : Addr} {S : Tbl} (h : TbAt H0 H f a S) (n : H g = none) : TbAt H0 H g a S := by
  obtain ⟨rs, h1, h2, h0, h3⟩ := h
  exact ⟨rs, h1, ne_of_none h1 n, h0, pair_map (fun _ _ z => z.to n) h3⟩
theorem TbL.fr {H0 H H' : Hp} {f : Addr} {as : List Addr} {F : List Tbl} (h : TbL H0 H f as F) (G : Fr f H H') : TbL H0 H' f as F := pair_map (fun _ _ z => z.fr G) h
theorem TbL.to {H0 H : Hp} {f g : Addr} {as : List Addr} {F : List Tbl} (h : TbL H0 H f as F) (n : H g = none) : TbL H0 H g as F := pair_map (fun _ _ z => z.to n) h
/-- none of their lists is one that was there -/
theorem TbAt.away {H0 H : Hp} {f p a : Addr} {o : HO} {S : Tbl} (hp : H0 p = some o) (h : TbAt H0 H f a S) : TbAt H0 H p a S := by
  obtain ⟨rs, h1, h2, h0, h3⟩ := h
  exact ⟨rs, h1, (ne_of_none hp h0).symm, h0, pair_map (fun _ _ z => ⟨z.1, (ne_of_none hp z.2.2).symm, z.2.2⟩) h3⟩
theorem TbL.away {H0 H : Hp} {f p : Addr} {o : HO} {as : List Addr} {F : List Tbl} (hp : H0 p = some o) (h : TbL H0 H f as F) : TbL H0 H p as F := pair_map (fun _ _ z => z.away hp) h
theorem TbAt.dp {K : PySem.W.Frag} {H0 H : Hp} {f a : Addr} {S : Tbl} (h : TbAt H0 H f a S) : Dp K H (.ref a) (tabD S) := by
  obtain ⟨rs, h1, _, _, h3⟩ := h
  refine .lst (SqL.of h1) ?_
  clear h1
  induction h3 with
  | nil => exact .nil
  | cons a _ ih => exact .cons (din_at a.1) ih
theorem TbL.dps {K : PySem.W.Frag} {H0 H : Hp} {f : Addr} {as : List Addr} {F : List Tbl} (h : TbL H0 H f as F) : DpAll K H (as.map V.ref) (F.map tabD) := by
  induction h with
  | nil => exact .nil
  | cons a _ ih => exact .cons a.dp ih
theorem tab_set {rs : List Addr} {p : Nat} {g : Addr} (h : p < rs.length) : cutV (rs.map V.ref) none (some (p : Int)) ++ [V.ref g] ++ cutV (rs.map V.ref) (some ((p : Int) + 1)) none = (rs.set p g).map V.ref := by
  rw [cut_to' (by rw [List.length_map]; omega)]
  have e : cutV (rs.map V.ref) (some ((p : Int) + 1)) none = (rs.map V.ref).drop (p + 1) := by
    unfold cutV
    rw [HT.sIx_none, show ((p : Int) + 1) = ((p + 1 : Nat) : Int) from rfl, HT.sIx_nat, List.length_map, Nat.min_eq_left (by omega), List.take_of_length_le (by rw [List.length_drop, List.length_map]; exact Nat.le_refl _)]
  rw [e, ← List.map_take, ← List.map_drop, List.set_eq_take_append_cons_drop, if_pos h, List.map_append, List.map_cons, List.append_assoc] <;> rfl
theorem rgC_down {k : Nat} (h : k ≤ 8) : RgC (k : Int) (-1) (-1) (k + 1) := by
  have : k = 0 ∨ k = 1 ∨ k = 2 ∨ k = 3 ∨ k = 4 ∨ k = 5 ∨ k = 6 ∨ k = 7 ∨ k = 8 := by omega
  refine ⟨by decide, by decide, ?_, ?_⟩
  · rcases this with e | e | e | e | e | e | e | e | e <;> subst e <;> decide
  · rcases this with e | e | e | e | e | e | e | e | e <;> subst e <;> decide
theorem mayT_le {D : Dy} {p t : Nat} (h1 : ∀ u ∈ D.ss, u ≤ 2) (h2 : ∀ k ∈ D.ks, ∀ u ∈ k.2, u ≤ 2) : mayT D p t ≤ 2 := by
  have g : ∀ ns : List Int, (∀ u ∈ ns, u ≤ 2) → ns.getD t 0 ≤ 2 := fun ns h => by
    rw [List.getD_eq_getElem?_getD]
    cases e : ns[t]? with
    | none => show (0 : Int) ≤ 2; decide
    | some u => exact h u (List.mem_of_getElem? e)
  unfold mayT
  by_cases c : p = D.ks.length
  · rw [if_pos c]
    exact g _ h1
  · rw [if_neg c]
    refine g _ fun u hu => ?_
    unfold kt at hu
    rw [List.getD_eq_getElem?_getD] at hu
    cases e : D.ks[p]? with
    | none =>
      rw [e] at hu
      exact absurd hu List.not_mem_nil
    | some k =>
      rw [e] at hu
      exact h2 k (List.mem_of_getElem? e) u hu
theorem genP_len {D : Dy} {t : Nat} {F : List Tbl} (h1 : ∀ u ∈ D.ss, u ≤ 2) (h2 : ∀ k ∈ D.ks, ∀ u ∈ k.2, u ≤ 2) : ∀ j, (genP D t F j).length ≤ F.length * 3 ^ j
  | 0 => by show F.length ≤ F.length * 1; omega
  | j + 1 => by
    have := genP_len (F := F) (t := t) h1 h2 j
    refine Nat.le_trans (flat_len (n := 3) fun S _ => ext_len (mayT_le h1 h2)) ?_
    rw [Nat.pow_succ, ← Nat.mul_assoc]
    exact Nat.mul_le_mul_right 3 this
theorem genH_len {D : Dy} (h1 : ∀ u ∈ D.ss, u ≤ 2) (h2 : ∀ k ∈ D.ks, ∀ u ∈ k.2, u ≤ 2) : ∀ t, (genH D t).length ≤ 3 ^ (t * (D.ks.length + 1))
  | 0 => by rw [Nat.zero_mul]; exact Nat.le_refl _
  | t + 1 => by
    have a := genP_len (F := genH D t) (t := t) h1 h2 (D.ks.length + 1)
    have b := genH_len h1 h2 t
    rw [Nat.succ_mul, Nat.pow_add]
    exact Nat.le_trans a (Nat.mul_le_mul_right _ b)
theorem gen_small {D : Dy} {t j : Nat} (h1 : ∀ u ∈ D.ss, u ≤ 2) (h2 : ∀ k ∈ D.ks, ∀ u ∈ k.2, u ≤ 2) (h8 : D.cs.length * (D.ks.length + 1) ≤ 8) (ht : t < D.cs.length) (hj : j ≤ D.ks.length + 1) : (genP D t (genH D t) j).length ≤ 6561 := by
  have a := genP_len (F := genH D t) (t := t) h1 h2 j
  have b := genH_len h1 h2 t
  have c : (t + 1) * (D.ks.length + 1) ≤ D.cs.length * (D.ks.length + 1) := Nat.mul_le_mul_right _ ht
  rw [Nat.succ_mul] at c
  refine Nat.le_trans a (Nat.le_trans (Nat.mul_le_mul_right _ b) ?_)
  rw [← Nat.pow_add]
  exact Nat.le_trans (Nat.pow_le_pow_right (by decide) (show t * (D.ks.length + 1) + j ≤ 8 by omega)) (by decide)
theorem csum_nn3 {D : Dy} (N : DyNn D) : ∀ t, 0 ≤ csum D t
  | 0 => by unfold csum; rw [List.take_zero, List.sum_nil]; decide
  | t + 1 => Int.le_trans (csum_nn3 N t) (csum_mono3 N t)
theorem most_lo {D : Dy} {t j : Nat} {S : Tbl} (N : DyNn D) (h2 : t < 48) (h : Shape D t j S) (hj : j ≤ D.ks.length) : -100000000 ≤ mostT D S (D.ks.length - j) t := by
  generalize ep : D.ks.length - j = p
  have hp : p ≤ D.ks.length := by omega
  have lp : lenT D t j p = t + 1 := if_neg (by omega)
  have a := (h.val p t hp (by omega)).2
  have b := (tk_nn N t (D.ks.length - p) p (by omega)).2
  have f0 : 0 ≤ firstT D S p t := by
    unfold firstT
    by_cases c : p = 0
    · rw [if_pos c]
      exact csum_nn3 N _
    · rw [if_neg c]
      exact (h.val (p - 1) t (by omega) (by unfold lenT; split <;> omega)).1
  unfold mostT
  by_cases c : p < D.ks.length
  · rw [if_pos c]
    have g := (h.val (p + 1) (t + 1) (by omega) (by unfold lenT; rw [if_pos (by omega)]; omega)).1
    have k := (N.ks _ (mem_kt3 c)).1
    omega
  · rw [if_neg c]
    omega
theorem may_nn {D : Dy} {p t : Nat} (N : DyNn D) (hp : p ≤ D.ks.length) : 0 ≤ mayT D p t := by
  unfold mayT
  by_cases c : p = D.ks.length
  · rw [if_pos c]
    exact (ldl_at N.ss t).1
  · rw [if_neg c]
    exact (ldl_at (N.ks _ (mem_kt3 (by omega))).2.2 t).1
theorem ext_get {D : Dy} {p t q : Nat} {S : Tbl} (h : q < (min (mostT D S p t) (mayT D p t) + 1).toNat) : (extT D p t S)[q]? = some (putT S p t (q : Int)) := by
  unfold extT
  rw [List.getElem?_map, List.getElem?_range h] <;> rfl
theorem ext_all {D : Dy} {p t : Nat} {S : Tbl} : (extT D p t S).take (min (mostT D S p t) (mayT D p t) + 1).toNat = extT D p t S := by
  refine List.take_of_length_le ?_
  unfold extT
  rw [List.length_map, List.length_range]
  exact Nat.le_refl _
theorem mono3 {D : Dy} (O : DyOk D) (N : DyNn D) : ∀ t p, p ≤ D.ks.length → tk D t p ≤ tk D (t + 1) p := fun t p hp => tk_mono3 N O.k1 t (D.ks.length - p) p (by omega)
theorem len_end {D : Dy} {n p : Nat} (hp : p ≤ D.ks.length) : lenT D n 0 p = n + 1 := if_neg (by omega)
theorem topT_end {D : Dy} {n p : Nat} (hp : p ≤ D.ks.length) : (topT D n 0)[p]? = some (topR D (n + 1) p) := by
  rw [topT_at hp, len_end hp]
theorem topR_take {D : Dy} {n p u : Nat} (h : u < n) : (topR D n p)[u]? = some (tk D u p) := by
  unfold topR
  rw [List.getElem?_map, List.getElem?_range h] <;> rfl
/-- the most of all plans is what the greatest has -/
theorem gen_max {D : Dy} (O : DyOk D) (N : DyNn D) {n p u : Nat} {m : Int} (hp : p ≤ D.ks.length) (hu : u ≤ n) (h1 : m ∈ (genH D n).map fun S => (rowT S p).getD u 0) (h2 : ∀ y ∈ (genH D n).map (fun S => (rowT S p).getD u 0), y ≤ m) : m = tk D u p := by
  obtain ⟨S, hS, rfl⟩ := List.mem_map.mp h1
  have a := ((genH_shape O.k1 n S hS).val p u hp (by rw [len_end hp]; omega)).2
  have c := genH_count N O.k1 (mono3 O N) n
  have mt : topT D n 0 ∈ genH D n := List.count_pos_iff.mp (by omega)
  have b := h2 _ (List.mem_map.mpr ⟨_, mt, rfl⟩)
  rw [rowT_at (topT_end hp), topR_get (by omega)] at b
  omega
theorem tab_deep (S : Tbl) : PyData.depth (tabD S) ≤ 60 := by
  show PyData.depthAll (S.map din) + 1 ≤ 60
  have := dins_depth S
  omega
theorem rws_dp {K : PySem.W.Frag} {H0 H : Hp} {f : Addr} {rs : List Addr} {S : Tbl} (h : Paired (RwAt H0 H f) rs S) : DpAll K H (rs.map V.ref) (S.map din) := by
  induction h with
  | nil => exact .nil
  | cons a _ ih => exact .cons (din_at a.1) ih
end KR
namespace KR
open PySem PySem.Spec PyProof.Rows L2
def top (i : Nat) : Stmt := PySem.Challenge.pw_kettlerow_k59_great_rounds_and_lists_of.main.body.getD i (.Pass ⟨0, 0, 0, 0⟩)
abbrev s_p_is_number : Stmt := top 2
theorem sc_p_is_number : FnScope ["thing"] ["thing"] (defScope s_p_is_number) := ⟨rfl, rfl, rfl, by decide +kernel, rfl, by decide +kernel, by decide +kernel⟩
abbrev s_p_is_number_within : Stmt := top 3
theorem sc_p_is_number_within : FnScope ["thing", "least", "most"] ["thing", "least", "most"] (defScope s_p_is_number_within) := ⟨rfl, rfl, rfl, by decide +kernel, rfl, by decide +kernel, by decide +kernel⟩
abbrev s_p_is_frac : Stmt := top 7
theorem sc_p_is_frac : FnScope ["thing", "top", "bottom"] ["thing"] (defScope s_p_is_frac) := ⟨rfl, rfl, rfl, by decide +kernel, rfl, by decide +kernel, by decide +kernel⟩
abbrev s_p_frac_of : Stmt := top 8
theorem sc_p_frac_of : FnScope ["top", "bottom", "common"] ["top", "bottom"] (defScope s_p_frac_of) := ⟨rfl, rfl, rfl, by decide +kernel, rfl, by decide +kernel, by decide +kernel⟩
abbrev s_p_sum_of : Stmt := top 9
theorem sc_p_sum_of : FnScope ["one", "other"] ["one", "other"] (defScope s_p_sum_of) := ⟨rfl, rfl, rfl, by decide +kernel, rfl, by decide +kernel, by decide +kernel⟩
abbrev s_p_sum_of_all : Stmt := top 10
theorem sc_p_sum_of_all : FnScope ["ones", "whole", "one"] ["ones"] (defScope s_p_sum_of_all) := ⟨rfl, rfl, rfl, by decide +kernel, rfl, by decide +kernel, by decide +kernel⟩
abbrev s_p_difference : Stmt := top 11
theorem sc_p_difference : FnScope ["one", "other"] ["one", "other"] (defScope s_p_difference) := ⟨rfl, rfl, rfl, by decide +kernel, rfl, by decide +kernel, by decide +kernel⟩
abbrev s_p_product : Stmt := top 12
theorem sc_p_product : FnScope ["one", "other"] ["one", "other"] (defScope s_p_product) := ⟨rfl, rfl, rfl, by decide +kernel, rfl, by decide +kernel, by decide +kernel⟩
abbrev s_p_quotient : Stmt := top 13
theorem sc_p_quotient : FnScope ["one", "other"] ["one", "other"] (defScope s_p_quotient) := ⟨rfl, rfl, rfl, by decide +kernel, rfl, by decide +kernel, by decide +kernel⟩
abbrev s_p_is_lesser : Stmt := top 14
theorem sc_p_is_lesser : FnScope ["one", "other"] ["one", "other"] (defScope s_p_is_lesser) := ⟨rfl, rfl, rfl, by decide +kernel, rfl, by decide +kernel, by decide +kernel⟩
abbrev s_p_are_kinds : Stmt := top 19
theorem sc_p_are_kinds : FnScope ["thing", "kind"] ["thing"] (defScope s_p_are_kinds) := ⟨rfl, rfl, rfl, by decide +kernel, rfl, by decide +kernel, by decide +kernel⟩
abbrev s_p_are_amounts : Stmt := top 20
theorem sc_p_are_amounts : FnScope ["kinds", "thing", "amount"] ["kinds", "thing"] (defScope s_p_are_amounts) := ⟨rfl, rfl, rfl, by decide +kernel, rfl, by decide +kernel, by decide +kernel⟩
abbrev s_p_walked_once : Stmt := top 21
theorem sc_p_walked_once : FnScope ["kinds", "amounts", "dripped", "later", "place", "fresh", "_", "come", "drips", "goes"] ["kinds", "amounts"] (defScope s_p_walked_once) := ⟨rfl, rfl, rfl, by decide +kernel, rfl, by decide +kernel, by decide +kernel⟩
abbrev s_p_walked_on : Stmt := top 22
theorem sc_p_walked_on : FnScope ["kinds", "amounts", "many", "later", "_"] ["kinds", "amounts", "many"] (defScope s_p_walked_on) := ⟨rfl, rfl, rfl, by decide +kernel, rfl, by decide +kernel, by decide +kernel⟩
abbrev s_p_loaves_of : Stmt := top 23
theorem sc_p_loaves_of : FnScope ["kinds", "amounts", "dripped", "amount", "drips"] ["kinds", "amounts"] (defScope s_p_loaves_of) := ⟨rfl, rfl, rfl, by decide +kernel, rfl, by decide +kernel, by decide +kernel⟩
abbrev s_p_sold_of : Stmt := top 24
theorem sc_p_sold_of : FnScope ["kinds", "amounts", "sold", "drips", "_", "goes"] ["kinds", "amounts"] (defScope s_p_sold_of) := ⟨rfl, rfl, rfl, by decide +kernel, rfl, by decide +kernel, by decide +kernel⟩
abbrev s_p_gap_between : Stmt := top 25
theorem sc_p_gap_between : FnScope ["one", "other", "gaps", "mine", "yours", "top", "bottom"] ["one", "other"] (defScope s_p_gap_between) := ⟨rfl, rfl, rfl, by decide +kernel, rfl, by decide +kernel, by decide +kernel⟩
abbrev s_p__dripped_of : Stmt := top 26
theorem sc_p__dripped_of : FnScope ["kinds", "amounts", "amount", "_", "drip"] ["kinds", "amounts"] (defScope s_p__dripped_of) := ⟨rfl, rfl, rfl, by decide +kernel, rfl, by decide +kernel, by decide +kernel⟩
abbrev s_p__is_kind : Stmt := top 27
theorem sc_p__is_kind : FnScope ["thing", "many", "fresh", "drip", "goes"] ["thing", "many"] (defScope s_p__is_kind) := ⟨rfl, rfl, rfl, by decide +kernel, rfl, by decide +kernel, by decide +kernel⟩
abbrev s_p__are_goes : Stmt := top 28
theorem sc_p__are_goes : FnScope ["thing", "many", "part"] ["thing", "many"] (defScope s_p__are_goes) := ⟨rfl, rfl, rfl, by decide +kernel, rfl, by decide +kernel, by decide +kernel⟩
abbrev s_p__is_part : Stmt := top 29
theorem sc_p__is_part : FnScope ["thing"] ["thing"] (defScope s_p__is_part) := ⟨rfl, rfl, rfl, by decide +kernel, rfl, by decide +kernel, by decide +kernel⟩
abbrev s_p_steady_state : Stmt := top 35
theorem sc_p_steady_state : FnScope ["kinds", "lossless", "rows", "place", "at", "row"] ["kinds"] (defScope s_p_steady_state) := ⟨rfl, rfl, rfl, by decide +kernel, rfl, by decide +kernel, by decide +kernel⟩
abbrev s_p_shows_steady : Stmt := top 36
theorem sc_p_shows_steady : FnScope ["kinds", "thing"] ["kinds", "thing"] (defScope s_p_shows_steady) := ⟨rfl, rfl, rfl, by decide +kernel, rfl, by decide +kernel, by decide +kernel⟩
abbrev s_p_rounds_till : Stmt := top 37
theorem sc_p_rounds_till : FnScope ["kinds", "amounts", "most", "steady", "later", "rounds"] ["kinds", "amounts", "most"] (defScope s_p_rounds_till) := ⟨rfl, rfl, rfl, by decide +kernel, rfl, by decide +kernel, by decide +kernel⟩
abbrev s_p__places_without_loss : Stmt := top 38
theorem sc_p__places_without_loss : FnScope ["kinds", "places", "place", "_", "drip", "left"] ["kinds"] (defScope s_p__places_without_loss) := ⟨rfl, rfl, rfl, by decide +kernel, rfl, by decide +kernel, by decide +kernel⟩
abbrev s_p__goes_in_all : Stmt := top 39
theorem sc_p__goes_in_all : FnScope ["kind", "places", "place"] ["kind", "places"] (defScope s_p__goes_in_all) := ⟨rfl, rfl, rfl, by decide +kernel, rfl, by decide +kernel, by decide +kernel⟩
abbrev s_p__row_of : Stmt := top 40
theorem sc_p__row_of : FnScope ["kinds", "place", "parts", "_", "drip", "goes"] ["kinds", "place"] (defScope s_p__row_of) := ⟨rfl, rfl, rfl, by decide +kernel, rfl, by decide +kernel, by decide +kernel⟩
abbrev s_p__freed_of_itself : Stmt := top 41
theorem sc_p__freed_of_itself : FnScope ["row", "place", "lost", "freed", "part"] ["row", "place"] (defScope s_p__freed_of_itself) := ⟨rfl, rfl, rfl, by decide +kernel, rfl, by decide +kernel, by decide +kernel⟩
abbrev s_p__put_into : Stmt := top 42
theorem sc_p__put_into : FnScope ["row", "place", "freed", "many", "put", "part", "more"] ["row", "place", "freed"] (defScope s_p__put_into) := ⟨rfl, rfl, rfl, by decide +kernel, rfl, by decide +kernel, by decide +kernel⟩
abbrev s_l_cell_at : Stmt := top 44
theorem sc_l_cell_at : FnScope ["_law_script", "_law_k"] ["_law_script", "_law_k"] (defScope s_l_cell_at) := ⟨rfl, rfl, rfl, by decide +kernel, rfl, by decide +kernel, by decide +kernel⟩
abbrev s_l_box : Stmt := top 45
theorem sc_l_box : FnScope ["_law_script", "_law_k", "_law_cell"] ["_law_script", "_law_k"] (defScope s_l_box) := ⟨rfl, rfl, rfl, by decide +kernel, rfl, by decide +kernel, by decide +kernel⟩
abbrev s_l_take : Stmt := top 46
theorem sc_l_take : FnScope ["_law_box_here", "_law_many", "_law_found", "_law_once_here", "_law_twice"] ["_law_box_here", "_law_many"] (defScope s_l_take) := ⟨rfl, rfl, rfl, by decide +kernel, rfl, by decide +kernel, by decide +kernel⟩
abbrev s_l_low : Stmt := top 47
theorem sc_l_low : FnScope ["_law_top", "_law_bottom", "_law_one", "_law_other"] ["_law_top", "_law_bottom"] (defScope s_l_low) := ⟨rfl, rfl, rfl, by decide +kernel, rfl, by decide +kernel, by decide +kernel⟩
abbrev s_l_plus : Stmt := top 48
theorem sc_l_plus : FnScope ["_law_one", "_law_other"] ["_law_one", "_law_other"] (defScope s_l_plus) := ⟨rfl, rfl, rfl, by decide +kernel, rfl, by decide +kernel, by decide +kernel⟩
abbrev s_l_by : Stmt := top 49
theorem sc_l_by : FnScope ["_law_one", "_law_other"] ["_law_one", "_law_other"] (defScope s_l_by) := ⟨rfl, rfl, rfl, by decide +kernel, rfl, by decide +kernel, by decide +kernel⟩
abbrev s_l_all : Stmt := top 50
theorem sc_l_all : FnScope ["_law_fracs", "_law_found", "_law_one"] ["_law_fracs"] (defScope s_l_all) := ⟨rfl, rfl, rfl, by decide +kernel, rfl, by decide +kernel, by decide +kernel⟩
abbrev s_l_goes : Stmt := top 53
theorem sc_l_goes : FnScope ["_law_box_here", "_law_many", "_law_bottom", "_law_way", "_law_left", "_law_found", "_law_turn", "_law_at", "_law_own", "_law_some", "_law_whole", "_law_top"] ["_law_box_here", "_law_many"] (defScope s_l_goes) := ⟨rfl, rfl, rfl, by decide +kernel, rfl, by decide +kernel, by decide +kernel⟩
abbrev s_l_kinds : Stmt := top 54
theorem sc_l_kinds : FnScope ["_law_box_here", "_law_many", "_law_found", "_law_turn", "_law_fresh", "_law_bottom", "_law_drip"] ["_law_box_here", "_law_many"] (defScope s_l_kinds) := ⟨rfl, rfl, rfl, by decide +kernel, rfl, by decide +kernel, by decide +kernel⟩
abbrev s_l_amounts : Stmt := top 55
theorem sc_l_amounts : FnScope ["_law_box_here", "_law_many", "_law_sorts", "_law_found", "_law_turn", "_law_top"] ["_law_box_here", "_law_many", "_law_sorts"] (defScope s_l_amounts) := ⟨rfl, rfl, rfl, by decide +kernel, rfl, by decide +kernel, by decide +kernel⟩
abbrev s_l_once : Stmt := top 56
theorem sc_l_once : FnScope ["_law_kinds_here", "_law_amounts_here", "_law_found", "_law_place", "_law_kind", "_law_some", "_law_one", "_law_other"] ["_law_kinds_here", "_law_amounts_here"] (defScope s_l_once) := ⟨rfl, rfl, rfl, by decide +kernel, rfl, by decide +kernel, by decide +kernel⟩
abbrev s_l_strays : Stmt := top 57
theorem sc_l_strays : FnScope ["_law_row", "_law_places", "_law_k", "_law_one"] ["_law_row", "_law_places"] (defScope s_l_strays) := ⟨rfl, rfl, rfl, by decide +kernel, rfl, by decide +kernel, by decide +kernel⟩
abbrev s_l_lossless : Stmt := top 58
theorem sc_l_lossless : FnScope ["_law_kinds_here", "_law_best", "_law_bits", "_law_places", "_law_place", "_law_fine"] ["_law_kinds_here"] (defScope s_l_lossless) := ⟨rfl, rfl, rfl, by decide +kernel, rfl, by decide +kernel, by decide +kernel⟩
abbrev s_l_great_right : Stmt := top 59
theorem sc_l_great_right : FnScope ["_law_box_here", "_law_kinds_here", "_law_amounts_here", "_law_cut", "_law_far", "_law_due", "_law_turn", "_law_behind", "_law_kept", "_law_one", "_law_kind", "_law_steady"] ["_law_box_here"] (defScope s_l_great_right) := ⟨rfl, rfl, rfl, by decide +kernel, rfl, by decide +kernel, by decide +kernel⟩
abbrev s_l_asked : Stmt := top 60
theorem sc_l_asked : FnScope ["_law_kinds_here", "_law_amounts_here", "_law_own", "_law_found", "_law_caught", "error"] ["_law_kinds_here", "_law_amounts_here"] (defScope s_l_asked) := ⟨rfl, rfl, rfl, by decide +kernel, rfl, by decide +kernel, by decide +kernel⟩
abbrev s_l_turns_right : Stmt := top 61
theorem sc_l_turns_right : FnScope ["_law_box_here", "_law_many", "_law_kinds_here", "_law_amounts_here", "_law_other", "_law_at", "_law_kept", "_law_lists", "_law_turn", "_law_found", "_law_one"] ["_law_box_here"] (defScope s_l_turns_right) := ⟨rfl, rfl, rfl, by decide +kernel, rfl, by decide +kernel, by decide +kernel⟩
abbrev s_p_law : Stmt := top 62
theorem sc_p_law : FnScope ["_law_script"] ["_law_script"] (defScope s_p_law) := ⟨rfl, rfl, rfl, by decide +kernel, rfl, by decide +kernel, by decide +kernel⟩
def clsBody : Stmt → List Stmt
  | .ClassDef (body := b) .. => b
  | _ => []
abbrev s_init_NoSteady : Stmt := (clsBody (top 32)).getD 0 (.Pass ⟨0, 0, 0, 0⟩)
theorem sc_init_NoSteady : FnScope ["self", "what"] ["self", "what"] (defScope s_init_NoSteady) := ⟨rfl, rfl, rfl, by decide +kernel, rfl, by decide +kernel, by decide +kernel⟩
structure All (K : PySem.W.Frag) (mg : Str → Option Value) where
  f_p_is_number : Addr
  fd_p_is_number : FuncData
  d_p_is_number : Def K mg "is_number" s_p_is_number f_p_is_number fd_p_is_number ["thing"]
  f_p_is_number_within : Addr
  fd_p_is_number_within : FuncData
  d_p_is_number_within : Def K mg "is_number_within" s_p_is_number_within f_p_is_number_within fd_p_is_number_within ["thing", "least", "most"]
  f_p_is_frac : Addr
  fd_p_is_frac : FuncData
  d_p_is_frac : Def K mg "is_frac" s_p_is_frac f_p_is_frac fd_p_is_frac ["thing"]
  f_p_frac_of : Addr
  fd_p_frac_of : FuncData
  d_p_frac_of : Def K mg "frac_of" s_p_frac_of f_p_frac_of fd_p_frac_of ["top", "bottom"]
  f_p_sum_of : Addr
  fd_p_sum_of : FuncData
  d_p_sum_of : Def K mg "sum_of" s_p_sum_of f_p_sum_of fd_p_sum_of ["one", "other"]
  f_p_sum_of_all : Addr
  fd_p_sum_of_all : FuncData
  d_p_sum_of_all : Def K mg "sum_of_all" s_p_sum_of_all f_p_sum_of_all fd_p_sum_of_all ["ones"]
  f_p_difference : Addr
  fd_p_difference : FuncData
  d_p_difference : Def K mg "difference" s_p_difference f_p_difference fd_p_difference ["one", "other"]
  f_p_product : Addr
  fd_p_product : FuncData
  d_p_product : Def K mg "product" s_p_product f_p_product fd_p_product ["one", "other"]
  f_p_quotient : Addr
  fd_p_quotient : FuncData
  d_p_quotient : Def K mg "quotient" s_p_quotient f_p_quotient fd_p_quotient ["one", "other"]
  f_p_is_lesser : Addr
  fd_p_is_lesser : FuncData
  d_p_is_lesser : Def K mg "is_lesser" s_p_is_lesser f_p_is_lesser fd_p_is_lesser ["one", "other"]
  f_p_are_kinds : Addr
  fd_p_are_kinds : FuncData
  d_p_are_kinds : Def K mg "are_kinds" s_p_are_kinds f_p_are_kinds fd_p_are_kinds ["thing"]
  f_p_are_amounts : Addr
  fd_p_are_amounts : FuncData
  d_p_are_amounts : Def K mg "are_amounts" s_p_are_amounts f_p_are_amounts fd_p_are_amounts ["kinds", "thing"]
  f_p_walked_once : Addr
  fd_p_walked_once : FuncData
  d_p_walked_once : Def K mg "walked_once" s_p_walked_once f_p_walked_once fd_p_walked_once ["kinds", "amounts"]
  f_p_walked_on : Addr
  fd_p_walked_on : FuncData
  d_p_walked_on : Def K mg "walked_on" s_p_walked_on f_p_walked_on fd_p_walked_on ["kinds", "amounts", "many"]
  f_p_loaves_of : Addr
  fd_p_loaves_of : FuncData
  d_p_loaves_of : Def K mg "loaves_of" s_p_loaves_of f_p_loaves_of fd_p_loaves_of ["kinds", "amounts"]
  f_p_sold_of : Addr
  fd_p_sold_of : FuncData
  d_p_sold_of : Def K mg "sold_of" s_p_sold_of f_p_sold_of fd_p_sold_of ["kinds", "amounts"]
  f_p_gap_between : Addr
  fd_p_gap_between : FuncData
  d_p_gap_between : Def K mg "gap_between" s_p_gap_between f_p_gap_between fd_p_gap_between ["one", "other"]
  f_p__dripped_of : Addr
  fd_p__dripped_of : FuncData
  d_p__dripped_of : Def K mg "_dripped_of" s_p__dripped_of f_p__dripped_of fd_p__dripped_of ["kinds", "amounts"]
  f_p__is_kind : Addr
  fd_p__is_kind : FuncData
  d_p__is_kind : Def K mg "_is_kind" s_p__is_kind f_p__is_kind fd_p__is_kind ["thing", "many"]
  f_p__are_goes : Addr
  fd_p__are_goes : FuncData
  d_p__are_goes : Def K mg "_are_goes" s_p__are_goes f_p__are_goes fd_p__are_goes ["thing", "many"]
  f_p__is_part : Addr
  fd_p__is_part : FuncData
  d_p__is_part : Def K mg "_is_part" s_p__is_part f_p__is_part fd_p__is_part ["thing"]
  f_p_steady_state : Addr
  fd_p_steady_state : FuncData
  d_p_steady_state : Def K mg "steady_state" s_p_steady_state f_p_steady_state fd_p_steady_state ["kinds"]
  f_p_shows_steady : Addr
  fd_p_shows_steady : FuncData
  d_p_shows_steady : Def K mg "shows_steady" s_p_shows_steady f_p_shows_steady fd_p_shows_steady ["kinds", "thing"]
  f_p_rounds_till : Addr
  fd_p_rounds_till : FuncData
  d_p_rounds_till : Def K mg "rounds_till" s_p_rounds_till f_p_rounds_till fd_p_rounds_till ["kinds", "amounts", "most"]
  f_p__places_without_loss : Addr
  fd_p__places_without_loss : FuncData
  d_p__places_without_loss : Def K mg "_places_without_loss" s_p__places_without_loss f_p__places_without_loss fd_p__places_without_loss ["kinds"]
  f_p__goes_in_all : Addr
  fd_p__goes_in_all : FuncData
  d_p__goes_in_all : Def K mg "_goes_in_all" s_p__goes_in_all f_p__goes_in_all fd_p__goes_in_all ["kind", "places"]
  f_p__row_of : Addr
  fd_p__row_of : FuncData
  d_p__row_of : Def K mg "_row_of" s_p__row_of f_p__row_of fd_p__row_of ["kinds", "place"]
  f_p__freed_of_itself : Addr
  fd_p__freed_of_itself : FuncData
  d_p__freed_of_itself : Def K mg "_freed_of_itself" s_p__freed_of_itself f_p__freed_of_itself fd_p__freed_of_itself ["row", "place"]
  f_p__put_into : Addr
  fd_p__put_into : FuncData
  d_p__put_into : Def K mg "_put_into" s_p__put_into f_p__put_into fd_p__put_into ["row", "place", "freed"]
  f_l_cell_at : Addr
  fd_l_cell_at : FuncData
  d_l_cell_at : Def K mg "_law_cell_at" s_l_cell_at f_l_cell_at fd_l_cell_at ["_law_script", "_law_k"]
  f_l_box : Addr
  fd_l_box : FuncData
  d_l_box : Def K mg "_law_box" s_l_box f_l_box fd_l_box ["_law_script", "_law_k"]
  f_l_take : Addr
  fd_l_take : FuncData
  d_l_take : Def K mg "_law_take" s_l_take f_l_take fd_l_take ["_law_box_here", "_law_many"]
  f_l_low : Addr
  fd_l_low : FuncData
  d_l_low : Def K mg "_law_low" s_l_low f_l_low fd_l_low ["_law_top", "_law_bottom"]
  f_l_plus : Addr
  fd_l_plus : FuncData
  d_l_plus : Def K mg "_law_plus" s_l_plus f_l_plus fd_l_plus ["_law_one", "_law_other"]
  f_l_by : Addr
  fd_l_by : FuncData
  d_l_by : Def K mg "_law_by" s_l_by f_l_by fd_l_by ["_law_one", "_law_other"]
  f_l_all : Addr
  fd_l_all : FuncData
  d_l_all : Def K mg "_law_all" s_l_all f_l_all fd_l_all ["_law_fracs"]
  f_l_goes : Addr
  fd_l_goes : FuncData
  d_l_goes : Def K mg "_law_goes" s_l_goes f_l_goes fd_l_goes ["_law_box_here", "_law_many"]
  f_l_kinds : Addr
  fd_l_kinds : FuncData
  d_l_kinds : Def K mg "_law_kinds" s_l_kinds f_l_kinds fd_l_kinds ["_law_box_here", "_law_many"]
  f_l_amounts : Addr
  fd_l_amounts : FuncData
  d_l_amounts : Def K mg "_law_amounts" s_l_amounts f_l_amounts fd_l_amounts ["_law_box_here", "_law_many", "_law_sorts"]
  f_l_once : Addr
  fd_l_once : FuncData
  d_l_once : Def K mg "_law_once" s_l_once f_l_once fd_l_once ["_law_kinds_here", "_law_amounts_here"]
  f_l_strays : Addr
  fd_l_strays : FuncData
  d_l_strays : Def K mg "_law_strays" s_l_strays f_l_strays fd_l_strays ["_law_row", "_law_places"]
  f_l_lossless : Addr
  fd_l_lossless : FuncData
  d_l_lossless : Def K mg "_law_lossless" s_l_lossless f_l_lossless fd_l_lossless ["_law_kinds_here"]
  f_l_great_right : Addr
  fd_l_great_right : FuncData
  d_l_great_right : Def K mg "_law_great_right" s_l_great_right f_l_great_right fd_l_great_right ["_law_box_here"]
  f_l_asked : Addr
  fd_l_asked : FuncData
  d_l_asked : Def K mg "_law_asked" s_l_asked f_l_asked fd_l_asked ["_law_kinds_here", "_law_amounts_here"]
  f_l_turns_right : Addr
  fd_l_turns_right : FuncData
  d_l_turns_right : Def K mg "_law_turns_right" s_l_turns_right f_l_turns_right fd_l_turns_right ["_law_box_here"]
  f_p_law : Addr
  fd_p_law : FuncData
  d_p_law : Def K mg "law" s_p_law f_p_law fd_p_law ["_law_script"]
  b_abs : mg "abs" = none
  b_all : mg "all" = none
  b_bool : mg "bool" = none
  b_enumerate : mg "enumerate" = none
  b_int : mg "int" = none
  b_isinstance : mg "isinstance" = none
  b_len : mg "len" = none
  b_list : mg "list" = none
  b_min : mg "min" = none
  b_range : mg "range" = none
  b_str : mg "str" = none
  b_sum : mg "sum" = none
  b_tuple : mg "tuple" = none
  b_zip : mg "zip" = none
  m_gcd : mg "gcd" = some (.builtin "math.gcd")
  t_MOST_ROUNDS : Tok
  c_MOST_ROUNDS : mg "MOST_ROUNDS" = some (.int 40 t_MOST_ROUNDS)
  t_MOST_KINDS : Tok
  c_MOST_KINDS : mg "MOST_KINDS" = some (.int 6 t_MOST_KINDS)
  t_MOST_FRESH : Tok
  c_MOST_FRESH : mg "MOST_FRESH" = some (.int 1000000 t_MOST_FRESH)
  t_MOST_BOTTOM : Tok
  c_MOST_BOTTOM : mg "MOST_BOTTOM" = some (.int 12 t_MOST_BOTTOM)
  C_BoilError : Addr
  g_BoilError : mg "BoilError" = some (.ref C_BoilError)
  C_NoSteady : Addr
  g_NoSteady : mg "NoSteady" = some (.ref C_NoSteady)
  O_NoSteady : OexC K C_NoSteady
  fI_NoSteady : Addr
  fdI_NoSteady : FuncData
  i_NoSteady : PySem.W.findIn K (.ref C_NoSteady) "__init__" = some (some (.ref fI_NoSteady))
  tI_NoSteady : PySem.W.typeIn K (.ref fI_NoSteady) = some (.type "function")
  FI_NoSteady : Fun K "__init__" "NoSteady.__init__" s_init_NoSteady fI_NoSteady fdI_NoSteady
  bI_NoSteady : Binds K fdI_NoSteady ["self", "what"] []
  E_NoSteady : ExcFacts K C_NoSteady
  N_NoSteady : NmC K C_NoSteady "NoSteady"
  te : PySem.W.exmOne K (.ref C_NoSteady) (.ref C_NoSteady) = some true
  c_p__are_goes : Addr
  P_p__are_goes : Addr
  k_p__are_goes : FunC K "_are_goes" "_are_goes" s_p__are_goes f_p__are_goes fd_p__are_goes c_p__are_goes
  c_p_are_kinds : Addr
  P_p_are_kinds : Addr
  k_p_are_kinds : FunC K "are_kinds" "are_kinds" s_p_are_kinds f_p_are_kinds fd_p_are_kinds c_p_are_kinds
  c_p_are_amounts : Addr
  P_p_are_amounts : Addr
  k_p_are_amounts : FunC K "are_amounts" "are_amounts" s_p_are_amounts f_p_are_amounts fd_p_are_amounts c_p_are_amounts
  C_NOUGHT : Addr
  g_NOUGHT : mg "NOUGHT" = some (.ref C_NOUGHT)
  q_NOUGHT : ∀ H, SqT K H C_NOUGHT [.int 0, .int 1]
  C_ONE : Addr
  g_ONE : mg "ONE" = some (.ref C_ONE)
  q_ONE : ∀ H, SqT K H C_ONE [.int 1, .int 1]
theorem ok_init_NoSteady {P : Program} {w : World} {K : PySem.W.Frag} {mg : Str → Option Value} {base : Heap} (T : All K mg) : FnOk P w K mg base CX0 1 T.fI_NoSteady T.fdI_NoSteady ["self", "what"] (sp_initX T.C_NoSteady "NoSteady") := by
  refine T.FI_NoSteady.ok sc_init_NoSteady (fun vs H Q E h => ?_) (fun cdv A outer s H vs Q E hr h => ?_)
  · obtain ⟨a, v, rfl, _⟩ := h
    rfl
  · obtain ⟨a, v, rfl, ha, q⟩ := h
    exact ⟨_, pss_cons (ps_ost (pv 0) (pv 1)) (pss_one (ps_ost (pv 0) (pe_cnm (pv 0)))), init_reads T.O_NoSteady T.E_NoSteady T.N_NoSteady ha fun dx h1 h2 => q dx h1 h2⟩
def All.Ps {K : PySem.W.Frag} {mg : Str → Option Value} (T : All K mg) : List Addr := [T.P_p__are_goes, T.P_p_are_kinds, T.P_p_are_amounts]
structure Tabs {K : PySem.W.Frag} {mg : Str → Option Value} (T : All K mg) (base : Heap) : Prop where
  t_p__are_goes : GxR.TabB base mg T.c_p__are_goes T.P_p__are_goes
  t_p_are_kinds : GxR.TabB base mg T.c_p_are_kinds T.P_p_are_kinds
  t_p_are_amounts : GxR.TabB base mg T.c_p_are_amounts T.P_p_are_amounts
end KR
namespace KR
open PySem PySem.Spec PyProof.Rows L2
section
variable {P : Program} {w : World} {K : PySem.W.Frag} {mg : Str → Option Value} {base : Heap}
def sp_l_cell_at (K : PySem.W.Frag) : Sp := fun vs H Q _ => ∃ (a : Addr) (ns : List Int) (k : Int), vs = [.ref a, .int k] ∧ SqL K H a (ns.map V.int) ∧ 0 ≤ k ∧ ∀ z : Int, Q (.int z) H
theorem ok_l_cell_at (T : All K mg) : FnOk P w K mg base CX0 1 T.f_l_cell_at T.fd_l_cell_at ["_law_script", "_law_k"] (sp_l_cell_at K) := by
  refine T.d_l_cell_at.fn.ok sc_l_cell_at (fun vs H Q E h => ?_) (fun cdv A outer s H vs Q E hr h => ?_)
  · obtain ⟨a, ns, k, rfl, _⟩ := h
    rfl
  · obtain ⟨a, ns, k, rfl, hS, h0, q⟩ := h
    refine ⟨_, (pss_cons (ps_if (pt_cmpR op_lt (pv 1) (pe_callB (lenQ (K := K) rfl) (by rfl) T.b_len PySem.boot_len (pa_cons (pv 0) pa_nil)) (nomark _)) (pss_one (ps_ret (pe_ix (ixL (K := K) rfl) (pv 0) (pv 1) (fun _ _ => rfl)))) pss_nil)
      (pss_one (ps_ret pe_int))), ?_⟩
    refine ⟨_, rfl, _, rfl, a, _, rfl, .inl hS, _, _, rfl, rfl, _, rfl, ite2 (fun c => ?_) (fun c => ?_)⟩
    · have c1 : k < ((ns.map V.int).length : Int) := of_decide_eq_true c
      rw [List.length_map] at c1
      refine ⟨_, rfl, _, rfl, a, _, k, _, rfl, rfl, hS, at_of (j := k.toNat) (by omega) (by rw [List.getElem?_map, List.getElem?_eq_getElem (show k.toNat < ns.length by omega)]; rfl), ?_⟩
      exact q _
    · exact q _

end
end KR
namespace KR
open PySem PySem.Spec PyProof.Rows L2
section
variable {P : Program} {w : World} {K : PySem.W.Frag} {mg : Str → Option Value} {base : Heap}
def sp_l_box (K : PySem.W.Frag) : Sp := fun vs H Q _ => ∃ (a : Addr) (ns : List Int) (k : Int), vs = [.ref a, .int k] ∧ SqL K H a (ns.map V.int) ∧ 0 ≤ k ∧ k ≤ 63 ∧ ∀ p H', Same H H' → H p = none → BoxAt H' p 0 → Q (.ref p) H'
theorem ok_l_box (T : All K mg) : FnOk P w K mg base CX0 2 T.f_l_box T.fd_l_box ["_law_script", "_law_k"] (sp_l_box K) := by
  refine T.d_l_box.fn.ok sc_l_box (fun vs H Q E h => ?_) (fun cdv A outer s H vs Q E hr h => ?_)
  · obtain ⟨a, ns, k, rfl, _⟩ := h
    rfl
  · obtain ⟨a, ns, k, rfl, hS, h0, h1, q⟩ := h
    refine ⟨_, (pss_cons (ps_set (i := 2) sc_l_box.nd rfl (by first | exact Or.inl rfl | exact Or.inr rfl) (pe_call (ok_l_cell_at T) hr (by rfl) T.d_l_cell_at.mg T.d_l_cell_at.fn.kp T.d_l_cell_at.b .nil pass0 (pa_cons (pv 0) (pa_cons (pv 1) pa_nil))))
      (pss_one (ps_ret (pe_lstI (pa_cons (pe_op op_mulX (pe_callB call_abs (by rfl) T.b_abs (by decide +kernel) (pa_cons (pv 2) pa_nil)) (pe_callTy call_int1 (by rfl) T.b_int (by decide +kernel) (pa_cons (pe_cmpR op_ge (pe_callB call_abs (by rfl) T.b_abs (by decide +kernel) (pa_cons (pv 2) pa_nil)) (pe_op op_pow pe_int pe_int) (nomark _)) pa_nil))) (pa_cons (pe_op op_add (pe_op op_add (pe_op op_mod (pv 2) pe_int) (pe_op op_mulX pe_int (pv 1))) pe_int) (pa_cons pe_int pa_nil))))))), ?_⟩
    refine ⟨_, rfl, _, rfl, a, ns, k, rfl, hS, h0, fun z => ?_⟩
    refine ⟨_, rfl, _, rfl, _, rfl, _, rfl, _, _, rfl, rfl, ⟨by decide, by decide, by decide⟩, _, _, rfl, rfl, .inr ⟨_, rfl, ?_⟩⟩
    refine ⟨_, _, rfl, rfl, mulR bit_lt, ?_⟩
    refine ⟨_, rfl, _, _, rfl, rfl, (by show (0 : Int) < 2305843009213693951; decide), _, rfl, _, _, rfl, rfl, mulL (by decide), _, _, rfl, rfl, _, _, rfl, rfl, rfl, fun p H1 s1 hp h1 => ?_⟩
    refine q p _ s1 hp ⟨_, _, _, h1, ?_, ?_, ?_, by decide, by decide⟩
    · refine Int.mul_nonneg (by split <;> omega) bit_nn
    · omega
    · omega

end
end KR
namespace KR
open PySem PySem.Spec PyProof.Rows L2
section
variable {P : Program} {w : World} {K : PySem.W.Frag} {mg : Str → Option Value} {base : Heap}
def sp_l_take : Sp := fun vs H Q _ => ∃ (p : Addr) (m : Int) (n : Nat), vs = [.ref p, .int m] ∧ BoxAt H p n ∧ n ≤ 1000000000 ∧ 0 < m ∧ m.natAbs < 2 ^ 200 ∧ ∀ (z : Int) (H' : Hp), 0 ≤ z → z < m → BoxAt H' p (n + 1) → Fr p H H' → Q (.int z) H'
theorem ok_l_take (T : All K mg) : FnOk P w K mg base CX0 1 T.f_l_take T.fd_l_take ["_law_box_here", "_law_many"] sp_l_take := by
  refine T.d_l_take.fn.ok sc_l_take (fun vs H Q E h => ?_) (fun cdv A outer s H vs Q E hr h => ?_)
  · obtain ⟨p, m, n, rfl, _⟩ := h
    rfl
  · obtain ⟨p, m, n, rfl, hB, hn, h0, hm, q⟩ := h
    obtain ⟨a, b, c, hp, ha, hb, hb2, hc, hcn⟩ := hB
    refine ⟨_, (pss_cons (ps_if (pt_cmpR op_gt (pe_ix (ixL (K := K) rfl) (pv 0) pe_int (fun _ _ => rfl)) pe_int (nomark _)) (pss_cons (ps_set (i := 2) sc_l_take.nd rfl (by first | exact Or.inl rfl | exact Or.inr rfl) (pe_op op_mod (pe_ix (ixL (K := K) rfl) (pv 0) pe_int (fun _ _ => rfl)) (pv 1)))
      (pss_cons (ps_asg (pe_op op_fdivW (pe_ix (ixL (K := K) rfl) (pv 0) pe_int (fun _ _ => rfl)) (pv 1)) (pg_sub (pv 0) pe_int set_list))
      (pss_one (ps_ret (pv 2))))) pss_nil)
      (pss_cons (ps_asg (pe_op op_add (pe_ix (ixL (K := K) rfl) (pv 0) pe_int (fun _ _ => rfl)) pe_int) (pg_sub (pv 0) pe_int set_list))
      (pss_cons (ps_set (i := 3) sc_l_take.nd rfl (by first | exact Or.inl rfl | exact Or.inr rfl) (pe_op op_mod (pe_op op_mulX (pe_op op_add (pe_ix (ixL (K := K) rfl) (pv 0) pe_int (fun _ _ => rfl)) (pe_op op_mulX pe_int (pe_ix (ixL (K := K) rfl) (pv 0) pe_int (fun _ _ => rfl)))) (pe_op op_add pe_int (pe_ix (ixL (K := K) rfl) (pv 0) pe_int (fun _ _ => rfl)))) pe_int))
      (pss_cons (ps_set (i := 4) sc_l_take.nd rfl (by first | exact Or.inl rfl | exact Or.inr rfl) (pe_op op_mod (pe_op op_mulX (pe_op op_add (pv 3) (pe_ix (ixL (K := K) rfl) (pv 0) pe_int (fun _ _ => rfl))) (pe_op op_add (pe_op op_mod (pv 3) pe_int) pe_int)) pe_int))
      (pss_one (ps_ret (pe_op op_mod (pe_op op_fdivW (pe_op op_mod (pe_op op_add (pe_op op_mulX (pv 4) pe_int) (pv 3)) pe_int) pe_int) (pv 1)))))))), ?_⟩
    refine ⟨_, rfl, p, _, 0, _, rfl, rfl, SqL.of hp, at0, _, _, rfl, rfl, _, rfl, ite2 (fun c1 => ?_) (fun c1 => ?_)⟩
    · refine ⟨_, rfl, p, _, 0, _, rfl, rfl, SqL.of hp, at0, _, rfl, _, _, rfl, rfl, h0, ?_⟩
      refine ⟨_, rfl, p, _, 0, _, rfl, rfl, SqL.of hp, at0, _, rfl, _, _, rfl, rfl, wide_div h0 hm (by decide) (by decide), ?_⟩
      refine ⟨_, rfl, p, _, 0, 0, rfl, rfl, hp, rfl, ?_⟩
      refine ⟨_, rfl, ?_⟩
      refine q _ _ (Int.emod_nonneg _ (by omega)) (Int.emod_lt_of_pos _ h0) ⟨_, _, _, upd_same, ?_, hb, hb2, hc, by omega⟩ (Fr.put Fr.refl)
      exact Int.ediv_nonneg ha (by omega)
    · refine ⟨_, rfl, p, _, 2, _, rfl, rfl, SqL.of hp, at2, _, _, rfl, rfl, _, rfl, p, _, 2, 2, rfl, rfl, hp, rfl, ?_⟩
      have hp2 : (upd H p (.lst [.int a, .int b, .int (c + 1)])) p = some (.lst [.int a, .int b, .int (c + 1)]) := upd_same
      refine ⟨_, rfl, p, _, 1, _, rfl, rfl, SqL.of hp2, at1, _, rfl, p, _, 2, _, rfl, rfl, SqL.of hp2, at2, _, _, rfl, rfl, mulL (by decide), _, _, rfl, rfl, ?_⟩
      refine ⟨_, rfl, p, _, 2, _, rfl, rfl, SqL.of hp2, at2, _, _, rfl, rfl, _, _, rfl, rfl, mulL (by omega), _, _, rfl, rfl, (by show (0 : Int) < 2147483647; decide), ?_⟩
      generalize e1 : (b + 48271 * (c + 1)) * (39373 + (c + 1)) % 2147483647 = o
      have o1 : 0 ≤ o ∧ o < 2147483647 := by omega
      refine ⟨_, rfl, _, rfl, p, _, 2, _, rfl, rfl, SqL.of hp2, at2, _, _, rfl, rfl, _, rfl, _, _, rfl, rfl, (by show (0 : Int) < 40009; decide), _, _, rfl, rfl, _, _, rfl, rfl, mulL (by omega), _, _, rfl, rfl, (by show (0 : Int) < 2147483629; decide), ?_⟩
      generalize e2 : (o + (c + 1)) * (o % 40009 + 7) % 2147483629 = t
      have t1 : 0 ≤ t ∧ t < 2147483629 := by omega
      refine ⟨_, rfl, _, _, rfl, rfl, mulL (by omega), _, rfl, _, _, rfl, rfl, _, _, rfl, rfl, (by show (0 : Int) < 2147483587; decide), _, _, rfl, rfl, wide_div (b := 10) (by decide) (by decide) (by decide) (by decide), _, rfl, _, _, rfl, rfl, h0, ?_⟩
      exact q _ _ (Int.emod_nonneg _ (by omega)) (Int.emod_lt_of_pos _ h0) ⟨_, _, _, upd_same, ha, hb, hb2, by omega, by omega⟩ (Fr.put Fr.refl)

end
end KR
namespace KR
open PySem PySem.Spec PyProof.Rows L2
section
variable {P : Program} {w : World} {K : PySem.W.Frag} {mg : Str → Option Value} {base : Heap}
theorem ok0_l_low (T : All K mg) : FnOk P w K mg base CX0 1 T.f_l_low T.fd_l_low ["_law_top", "_law_bottom"] sp_lowV := by
  refine T.d_l_low.fn.ok sc_l_low (fun vs H Q E h => ?_) (fun cdv A outer s H vs Q E hr h => ?_)
  · obtain ⟨t, b, rfl, _⟩ := h
    rfl
  · obtain ⟨t, b, rfl, hb, ht, hb2, q⟩ := h
    refine ⟨_, (pss_cons (ps_par (i := 2) (j := 3) (by rfl) sc_l_low.nd rfl rfl (by decide) rfl rfl (pa_cons (pe_callB call_abs (by rfl) T.b_abs (by decide +kernel) (pa_cons (pv 0) pa_nil)) (pa_cons (pe_callB call_abs (by rfl) T.b_abs (by decide +kernel) (pa_cons (pv 1) pa_nil)) pa_nil)) (by rfl))
      (pss_cons (ps_while PassesOwn.never (pt_cmpR op_gt (pv 3) pe_int (nomark _)) (pss_one (ps_par (i := 2) (j := 3) (by rfl) sc_l_low.nd rfl rfl (by decide) rfl rfl (pa_cons (pv 3) (pa_cons (pe_op op_mod (pv 2) (pv 3)) pa_nil)) (by rfl))))
      (pss_one (ps_ret (pe_tupI (pa_cons (pe_op op_mulX (pe_op op_fdivW (pv 0) (pv 2)) (pe_op op_sub pe_int (pe_op op_mulX pe_int (pe_callTy call_int1 (by rfl) T.b_int (by decide +kernel) (pa_cons (pe_cmpR op_lt (pv 1) pe_int (nomark _)) pa_nil))))) (pa_cons (pe_op op_fdivW (pe_callB call_abs (by rfl) T.b_abs (by decide +kernel) (pa_cons (pv 1) pa_nil)) (pv 2)) pa_nil))))))), ?_⟩
    have abs_ : ∀ z : Int, (if z < 0 then -z else z) = (z.natAbs : Int) := fun z => by split <;> omega
    refine ⟨_, rfl, _, rfl, _, rfl, _, rfl, _, _, rfl, ?_⟩
    rw [abs_, abs_]
    refine ⟨fun m σ H' => ∃ x y : Nat, σ = [some (.int t), some (.int b), some (.int x), some (.int y)] ∧ H' = H ∧ Nat.gcd x y = Nat.gcd t.natAbs b.natAbs ∧ m = y, ⟨_, _, _, rfl, rfl, rfl, rfl⟩, ?_⟩
    rintro m σ H' ⟨x, y, rfl, rfl, hg, rfl⟩
    refine ⟨_, rfl, _, _, rfl, rfl, _, rfl, ite2 (fun c => ?_) (fun c => ?_)⟩
    · have c1 : (0 : Int) < m := of_decide_eq_true c
      refine ⟨fun σ' H1 => ∃ x' y' : Nat, σ' = [some (.int t), some (.int b), some (.int x'), some (.int y')] ∧ H1 = H' ∧ Nat.gcd x' y' = Nat.gcd t.natAbs b.natAbs ∧ y' < m, fun σ' H1 ⟨x', y', e1, e2, e3, e4⟩ => ⟨y', e4, x', y', e1, e2, e3, rfl⟩, ?_⟩
      refine ⟨_, rfl, _, rfl, _, rfl, _, _, rfl, rfl, c1, _, _, rfl, ?_⟩
      refine ⟨m, x % m, by rw [Int.natCast_emod]; rfl, rfl, ?_, Nat.mod_lt _ (by omega)⟩
      rw [← hg, Nat.gcd_comm x m, Nat.gcd_rec m x, Nat.gcd_comm]
    · have c1 : ¬ (0 : Int) < m := of_decide_eq_false (Bool.eq_false_iff.mpr c)
      have m0 : m = 0 := by omega
      subst m0
      rw [Nat.gcd_zero_right] at hg
      have x0 : 0 < x := by
        rw [hg]
        exact Nat.gcd_pos_of_pos_right _ (by omega)
      have x1 : (x : Int).natAbs < 2 ^ 8900 := by
        rw [Int.natAbs_natCast, hg]
        exact Nat.lt_of_le_of_lt (Nat.le_of_dvd (by omega) (Nat.gcd_dvd_right _ _)) hb2
      refine ⟨_, rfl, _, rfl, _, _, rfl, rfl, wide_div (b := 8900) (by omega) x1 (by decide) (by decide), _, rfl, _, _, rfl, rfl, .inr ⟨_, rfl, ?_⟩⟩
      refine ⟨_, _, rfl, rfl, mulL (by decide), _, _, rfl, rfl, _, _, rfl, rfl, mulR (by rcases bit_or (c := decide (b < 0) = true) with z | z <;> rw [z] <;> decide), ?_⟩
      refine ⟨_, rfl, _, rfl, _, rfl, _, _, rfl, rfl, wide_div (b := 8900) (by omega) x1 (by decide) (by decide), rfl, fun p H1 s1 hp h1 => ?_⟩
      have e1 : t / (x : Int) * (1 - 2 * (if decide (b < 0) = true then 1 else 0)) = (low t b).1 := by
        unfold low
        rw [hg]
        by_cases z : b < 0
        · rw [if_pos (decide_eq_true z), if_pos z] <;> rfl
        · rw [if_neg (by rw [decide_eq_false z]; exact Bool.false_ne_true), if_neg z] <;> rfl
      have e2 : (if b < 0 then -b else b) / (x : Int) = (low t b).2 := by
        rw [abs_]
        unfold low
        rw [hg]
      refine q p H1 s1 hp ?_
      rw [← e1, ← e2]
      exact h1
theorem ok_l_low (T : All K mg) : FnOk P w K mg base CX0 1 T.f_l_low T.fd_l_low ["_law_top", "_law_bottom"] (sp_lowW K) := (ok0_l_low T).imp fun _ _ _ _ h => lowW h

end
end KR
namespace KR
open PySem PySem.Spec PyProof.Rows L2
section
variable {P : Program} {w : World} {K : PySem.W.Frag} {mg : Str → Option Value} {base : Heap}
theorem ok_l_plus (T : All K mg) : FnOk P w K mg base CX0 2 T.f_l_plus T.fd_l_plus ["_law_one", "_law_other"] (sp_w2 K (fun p q => p + q) (fun _ q => True)) := by
  refine T.d_l_plus.fn.ok sc_l_plus (fun vs H Q E h => ?_) (fun cdv A outer s H vs Q E hr h => ?_)
  · obtain ⟨x, y, p, q, rfl, _⟩ := h
    rfl
  · obtain ⟨x, y, p, q, rfl, hx, hy, zp, zq, hok, k⟩ := h
    have hx' : SqT K H x [.int p.num, .int (p.den : Int)] := hx
    have hy' : SqT K H y [.int q.num, .int (q.den : Int)] := hy
    refine ⟨_, (pss_one (ps_ret (pe_call (ok_l_low T) hr (by rfl) T.d_l_low.mg T.d_l_low.fn.kp T.d_l_low.b .nil pass0 (pa_cons (pe_op op_add (pe_op op_mulX (pe_ix (ixT (K := K) rfl) (pv 0) pe_int (fun _ _ => rfl)) (pe_ix (ixT (K := K) rfl) (pv 1) pe_int (fun _ _ => rfl))) (pe_op op_mulX (pe_ix (ixT (K := K) rfl) (pv 1) pe_int (fun _ _ => rfl)) (pe_ix (ixT (K := K) rfl) (pv 0) pe_int (fun _ _ => rfl)))) (pa_cons (pe_op op_mulX (pe_ix (ixT (K := K) rfl) (pv 0) pe_int (fun _ _ => rfl)) (pe_ix (ixT (K := K) rfl) (pv 1) pe_int (fun _ _ => rfl))) pa_nil))))), ?_⟩
    obtain ⟨a1, a2⟩ := zp
    obtain ⟨b1, b2⟩ := zq
    have hp := den_ne' p
    have hq := den_ne' q
    refine ⟨_, rfl, x, _, 0, _, rfl, rfl, hx', at0, _, rfl, y, _, 1, _, rfl, rfl, hy', at1, _, _, rfl, rfl, mulZ a1 b2 (by omega), _, rfl, y, _, 0, _, rfl, rfl, hy', at0, _, rfl, x, _, 1, _, rfl, rfl, hx', at1, _, _, rfl, rfl, mulZ b1 a2 (by omega), _, _, rfl, rfl, ?_⟩
    refine ⟨_, rfl, x, _, 1, _, rfl, rfl, hx', at1, _, rfl, y, _, 1, _, rfl, rfl, hy', at1, _, _, rfl, rfl, mulZ a2 b2 (by omega), ?_⟩
    refine ⟨_, _, rfl, Int.mul_ne_zero hp hq, lt_up (add_lt (wide_lt a1 b2) (wide_lt b1 a2)) (by omega), lt_up (wide_lt a2 b2) (by omega), ?_⟩
    intro z H' s1 n1 h1
    rw [rq_add] at h1
    exact k z H' s1 n1 h1

end
end KR
namespace KR
open PySem PySem.Spec PyProof.Rows L2
section
variable {P : Program} {w : World} {K : PySem.W.Frag} {mg : Str → Option Value} {base : Heap}
theorem ok_l_by (T : All K mg) : FnOk P w K mg base CX0 2 T.f_l_by T.fd_l_by ["_law_one", "_law_other"] (sp_w2 K (fun p q => p * q) (fun _ q => True)) := by
  refine T.d_l_by.fn.ok sc_l_by (fun vs H Q E h => ?_) (fun cdv A outer s H vs Q E hr h => ?_)
  · obtain ⟨x, y, p, q, rfl, _⟩ := h
    rfl
  · obtain ⟨x, y, p, q, rfl, hx, hy, zp, zq, hok, k⟩ := h
    have hx' : SqT K H x [.int p.num, .int (p.den : Int)] := hx
    have hy' : SqT K H y [.int q.num, .int (q.den : Int)] := hy
    refine ⟨_, (pss_one (ps_ret (pe_call (ok_l_low T) hr (by rfl) T.d_l_low.mg T.d_l_low.fn.kp T.d_l_low.b .nil pass0 (pa_cons (pe_op op_mulX (pe_ix (ixT (K := K) rfl) (pv 0) pe_int (fun _ _ => rfl)) (pe_ix (ixT (K := K) rfl) (pv 1) pe_int (fun _ _ => rfl))) (pa_cons (pe_op op_mulX (pe_ix (ixT (K := K) rfl) (pv 0) pe_int (fun _ _ => rfl)) (pe_ix (ixT (K := K) rfl) (pv 1) pe_int (fun _ _ => rfl))) pa_nil))))), ?_⟩
    obtain ⟨a1, a2⟩ := zp
    obtain ⟨b1, b2⟩ := zq
    have hp := den_ne' p
    have hq := den_ne' q
    refine ⟨_, rfl, x, _, 0, _, rfl, rfl, hx', at0, _, rfl, y, _, 0, _, rfl, rfl, hy', at0, _, _, rfl, rfl, mulZ a1 b1 (by omega), ?_⟩
    refine ⟨_, rfl, x, _, 1, _, rfl, rfl, hx', at1, _, rfl, y, _, 1, _, rfl, rfl, hy', at1, _, _, rfl, rfl, mulZ a2 b2 (by omega), ?_⟩
    refine ⟨_, _, rfl, Int.mul_ne_zero hp hq, lt_up (wide_lt a1 b1) (by omega), lt_up (wide_lt a2 b2) (by omega), ?_⟩
    intro z H' s1 n1 h1
    rw [rq_mul] at h1
    exact k z H' s1 n1 h1

end
end KR
namespace KR
open PySem PySem.Spec PyProof.Rows L2
section
variable {P : Program} {w : World} {K : PySem.W.Frag} {mg : Str → Option Value} {base : Heap}
def sp_l_all (K : PySem.W.Frag) : Sp := fun vs H Q _ => ∃ (a : Addr) (l : List Fz) (p : Bool), vs = [.ref a] ∧ SqB K H a (rz l) p ∧ FL K H l ∧ (∀ z ∈ l, Big z.2) ∧ AddOk (l.map (·.2)) ∧ ∀ z H', Same H H' → FrQ K H' z (zsum (l.map (·.2))) → Q (.ref z) H'
theorem ok_l_all (T : All K mg) : FnOk P w K mg base CX0 3 T.f_l_all T.fd_l_all ["_law_fracs"] (sp_l_all K) := by
  refine T.d_l_all.fn.ok sc_l_all (fun vs H Q E h => ?_) (fun cdv A outer s H vs Q E hr h => ?_)
  · obtain ⟨a, l, p, rfl, _⟩ := h
    rfl
  · obtain ⟨a, l, p, rfl, ha, hf, big, add, q⟩ := h
    refine ⟨_, (pss_cons (ps_set (i := 1) sc_l_all.nd rfl (by first | exact Or.inl rfl | exact Or.inr rfl) (pe_tupI (pa_cons pe_int (pa_cons pe_int pa_nil))))
      (pss_cons (ps_for PassesOwn.never rfl (pi_seqB (K := K) rfl (pv 0)) (pg_name (i := 2) sc_l_all.nd rfl (by first | exact Or.inl rfl | exact Or.inr rfl)) (pss_one (ps_set (i := 1) sc_l_all.nd rfl (by first | exact Or.inl rfl | exact Or.inr rfl) (pe_call (ok_l_plus T) hr (by rfl) T.d_l_plus.mg T.d_l_plus.fn.kp T.d_l_plus.b .nil pass0 (pa_cons (pv 1) (pa_cons (pv 2) pa_nil))))))
      (pss_one (ps_ret (pv 1))))), ?_⟩
    refine ⟨rfl, fun z0 H1 s1 n1 h1 => ?_⟩
    have h1 : FrQ K H1 z0 0 := .of h1
    cases p with
    | true => exact ⟨_, rfl, a, rfl, .inl ⟨⟨_, s1.seq ha⟩, all_loop walk_list (fun H' s => s.seq ha) s1 h1 hf big add fun z v H' s hz => ⟨_, rfl, q z H' s hz⟩⟩⟩
    | false => exact ⟨_, rfl, a, rfl, .inr ⟨⟨_, Same.tup s1 ha⟩, all_loop walk_tup (fun H' s => Same.tup s ha) s1 h1 hf big add fun z v H' s hz => ⟨_, rfl, q z H' s hz⟩⟩⟩

end
end KR
namespace KR
open PySem PySem.Spec PyProof.Rows L2
section
variable {P : Program} {w : World} {K : PySem.W.Frag} {mg : Str → Option Value} {base : Heap}
def sp_l_goes (K : PySem.W.Frag) : Sp := fun vs H Q _ => ∃ (p : Addr) (k n : Nat), vs = [.ref p, .int (k : Int)] ∧ BoxAt H p n ∧ n ≤ 999998000 ∧ 1 ≤ k ∧ k ≤ 6 ∧ ∀ (g : Addr) (l : List Fz) (H' : Hp), H' g = some (.tup (rz l)) → FL K H' l → l.length = k → (∀ z ∈ l, Part z.2) → zsum (l.map (·.2)) ≤ 1 → BoxAt H' p (n + 40) → Fr p H H' → Q (.ref g) H'
theorem ok_l_goes (T : All K mg) : FnOk P w K mg base CX0 4 T.f_l_goes T.fd_l_goes ["_law_box_here", "_law_many"] (sp_l_goes K) := by
  refine T.d_l_goes.fn.ok sc_l_goes (fun vs H Q E h => ?_) (fun cdv A outer s H vs Q E hr h => ?_)
  · obtain ⟨p, k, n, rfl, _⟩ := h
    rfl
  · obtain ⟨p, k, n, rfl, hB, hn, k1, k6, q⟩ := h
    refine ⟨_, (pss_cons (ps_par (i := 2) (j := 3) (by rfl) sc_l_goes.nd rfl rfl (by decide) rfl rfl (pa_cons (pe_op op_add pe_int (pe_call (ok_l_take T) (hr.mono (by decide)) (by rfl) T.d_l_take.mg T.d_l_take.fn.kp T.d_l_take.b .nil pass0 (pa_cons (pv 0) (pa_cons pe_int pa_nil)))) (pa_cons (pe_call (ok_l_take T) (hr.mono (by decide)) (by rfl) T.d_l_take.mg T.d_l_take.fn.kp T.d_l_take.b .nil pass0 (pa_cons (pv 0) (pa_cons pe_int pa_nil))) pa_nil)) (by rfl))
      (pss_cons (ps_par (i := 4) (j := 5) (by rfl) sc_l_goes.nd rfl rfl (by decide) rfl rfl (pa_cons (pv 2) (pa_cons (pe_op op_rep (pe_lstI (pa_cons (pe_tupI (pa_cons pe_int (pa_cons pe_int pa_nil))) pa_nil)) (pv 1)) pa_nil)) (by rfl))
      (pss_cons (ps_for PassesOwn.never rfl (pi_range1 (by rfl) T.b_range (pa_cons (pv 1) pa_nil)) (pg_name (i := 6) sc_l_goes.nd rfl (by first | exact Or.inl rfl | exact Or.inr rfl)) (pss_cons (ps_set (i := 7) sc_l_goes.nd rfl (by first | exact Or.inl rfl | exact Or.inr rfl) (pe_call (ok_l_take T) (hr.mono (by decide)) (by rfl) T.d_l_take.mg T.d_l_take.fn.kp T.d_l_take.b .nil pass0 (pa_cons (pv 0) (pa_cons (pv 1) pa_nil))))
      (pss_one (ps_if (pt_cmpR op_eq (pv 3) pe_int (nomark _)) (pss_cons (ps_set (i := 8) sc_l_goes.nd rfl (by first | exact Or.inl rfl | exact Or.inr rfl) (pe_op op_add pe_int (pe_call (ok_l_take T) (hr.mono (by decide)) (by rfl) T.d_l_take.mg T.d_l_take.fn.kp T.d_l_take.b .nil pass0 (pa_cons (pv 0) (pa_cons pe_int pa_nil)))))
      (pss_cons (ps_set (i := 9) sc_l_goes.nd rfl (by first | exact Or.inl rfl | exact Or.inr rfl) (pe_op op_catI (pe_op op_catI (pe_slice (slL (K := K) rfl) (pv 5) po_none (po_some (pv 7))) (pe_lstI (pa_cons (pe_call (ok_l_low T) (hr.mono (by decide)) (by rfl) T.d_l_low.mg T.d_l_low.fn.kp T.d_l_low.b .nil pass0 (pa_cons (pe_call (ok_l_take T) (hr.mono (by decide)) (by rfl) T.d_l_take.mg T.d_l_take.fn.kp T.d_l_take.b .nil pass0 (pa_cons (pv 0) (pa_cons (pe_op op_add (pv 8) pe_int) pa_nil))) (pa_cons (pv 8) pa_nil))) pa_nil))) (pe_slice (slL (K := K) rfl) (pv 5) (po_some (pe_op op_add (pv 7) pe_int)) po_none)))
      (pss_cons (ps_set (i := 10) sc_l_goes.nd rfl (by first | exact Or.inl rfl | exact Or.inr rfl) (pe_call (ok_l_all T) hr (by rfl) T.d_l_all.mg T.d_l_all.fn.kp T.d_l_all.b .nil pass0 (pa_cons (pv 9) pa_nil)))
      (pss_one (ps_set (i := 5) sc_l_goes.nd rfl (by first | exact Or.inl rfl | exact Or.inr rfl) (pe_ifExp (pt_cmpR op_le (pe_ix (ixT (K := K) rfl) (pv 10) pe_int (fun _ _ => rfl)) (pe_ix (ixT (K := K) rfl) (pv 10) pe_int (fun _ _ => rfl)) (nomark _)) (pv 9) (pv 5))))))) (pss_one (ps_if (pt_cmpR (eqDK (K := K) rfl hr.units) (pe_ix (ixL (K := K) rfl) (pv 5) (pv 7) (fun _ _ => rfl)) (pe_tupI (pa_cons pe_int (pa_cons pe_int pa_nil))) (nomark _)) (pss_cons (ps_set (i := 11) sc_l_goes.nd rfl (by first | exact Or.inl rfl | exact Or.inr rfl) (pe_ifExp (PW.pt (pw_and (pt_cmpR op_eq (pv 3) pe_int (nomark _)) (pw_and1 (pt_cmpR op_gt (pv 6) (pe_op op_fdivW (pv 1) pe_int) (nomark _))))) (pv 4) (pe_call (ok_l_take T) (hr.mono (by decide)) (by rfl) T.d_l_take.mg T.d_l_take.fn.kp T.d_l_take.b .nil pass0 (pa_cons (pv 0) (pa_cons (pe_op op_add (pv 4) pe_int) pa_nil)))))
      (pss_one (ps_asg (pe_tupI (pa_cons (pe_op op_sub (pv 4) (pv 11)) (pa_cons (pe_call (ok_l_low T) (hr.mono (by decide)) (by rfl) T.d_l_low.mg T.d_l_low.fn.kp T.d_l_low.b .nil pass0 (pa_cons (pv 11) (pa_cons (pv 2) pa_nil))) pa_nil))) (pg_tupK (K := K) rfl rfl (pgs_cons (pg_name (i := 4) sc_l_goes.nd rfl (by first | exact Or.inl rfl | exact Or.inr rfl)) (pgs_cons (pg_sub (pv 5) (pv 7) set_list) pgs_nil)))))) pss_nil))))))
      (pss_one (ps_ret (pe_callTy call_tuple_of (by rfl) T.b_tuple (by decide +kernel) (pa_cons (pv 5) pa_nil))))))), ?_⟩
    refine ⟨_, rfl, p, 12, n, rfl, hB, by omega, by decide, by decide, fun b H1 b0 b1 B1 F1 => ?_⟩
    refine ⟨_, _, rfl, rfl, _, rfl, p, 4, n + 1, rfl, B1, by omega, by decide, by decide, fun w H2 w0 w1 B2 F2 => ?_⟩
    refine ⟨_, _, rfl, ?_⟩
    refine ⟨_, rfl, rfl, fun t0 H3 s3 n3 h3 => ⟨rfl, fun l0 H4 s4 n4 h4 => ⟨_, rfl, ?_⟩⟩⟩
    refine ⟨l0, (k : Int), _, rfl, rfl, h4, by omega, by omega, by show 1 * _ ≤ _; rw [sizeLine_eq]; omega, fun fl nfl => ?_⟩
    rw [rep_rz k (t0, 0)]
    have s5 : Same H4 (upd H4 fl (.lst (rz (List.replicate k (t0, 0))))) := same_new nfl
    have h5 : (upd H4 fl (.lst (rz (List.replicate k (t0, 0))))) fl = some (.lst (rz (List.replicate k (t0, 0)))) := upd_same
    generalize upd H4 fl (.lst (rz (List.replicate k (t0, 0)))) = H5 at s5 h5
    have s35 := s4.trans s5
    have B5 := (B2.same s3).same s35
    have flp : fl ≠ p := ((B2.same s3).same s4).new nfl
    have F5 : Fr p H H5 := ((F1.trans F2).trans (.of s3)).trans (.of s35)
    have nflH : H fl = none := by
      cases e : H fl with
      | none => rfl
      | some o =>
        have k := (((F1.trans F2).trans (.of s3)).trans (.of s4)) _ _ flp e
        rw [nfl] at k
        cases k
    refine ⟨_, _, rfl, ?_⟩
    have f0 : FrQ K H5 t0 0 := .of (s35 _ _ h3)
    have z0 : GoOk K H5 k (List.replicate k (t0, 0)) := ⟨fun z hz => by rw [List.eq_of_mem_replicate hz]; exact f0, List.length_replicate, fun z hz => by rw [List.eq_of_mem_replicate hz]; exact Part.zero, by rw [List.map_replicate, zsum_rep]; decide⟩
    refine ⟨_, rfl, k, rfl, by omega, by omega, for_range (lo := 0) (n := k) (fun i σ H' => ∃ (lf : Int) (f : Addr) (l : List Fz) (v6 v7 v8 v9 v10 v11 : Option V), σ = [some (.ref p), some (.int (k : Int)), some (.int (1 + b)), some (.int w), some (.int lf), some (.ref f), v6, v7, v8, v9, v10, v11] ∧ H' f = some (.lst (rz l)) ∧ H f = none ∧ f ≠ p ∧ GoOk K H' k l ∧
      0 ≤ lf ∧ lf ≤ 1 + b ∧ (w ≠ 3 → zsum (l.map (·.2)) * ((1 + b : Int) : Rat) = ((1 + b - lf : Int) : Rat)) ∧ BoxAt H' p (n + 2 + 6 * i) ∧ Fr p H H') ⟨1 + b, fl, _, none, none, none, none, none, none, rfl, h5, nflH, flp, z0, by omega, by omega, fun _ => ?_, B5, F5⟩ ?_ ?_⟩
    · rw [List.map_replicate, zsum_rep, show (1 + b - (1 + b) : Int) = 0 by omega, Rat.zero_mul] <;> rfl
    · rintro i σ H0 hi ⟨lf, f, l, v6, v7, v8, v9, v10, v11, rfl, hf, nf, fp, G, lf0, lf1, inv, B, F⟩
      refine ⟨_, rfl, _, rfl, p, (k : Int), n + 2 + 6 * i, rfl, B, by omega, by omega, by omega, fun at_ H6 a0 a1 B6 F6 => ?_⟩
      have hf6 := F6 _ _ fp hf
      have G6 := G.fr B F6
      have F06 := F.trans F6
      obtain ⟨an, rfl⟩ : ∃ an : Nat, at_ = (an : Int) := ⟨at_.toNat, by omega⟩
      have al : an < l.length := by rw [G.len]; omega
      have ga : l[an]? = some l[an] := List.getElem?_eq_getElem al
      generalize l[an] = y at ga
      have my := List.mem_of_getElem? ga
      refine ⟨_, rfl, rfl, _, rfl, ite2 (fun c3 => ?_) (fun c3 => ?_)⟩
      · refine ⟨_, rfl, p, 12, n + 2 + 6 * i + 1, rfl, B6, by omega, by decide, by decide, fun o H7 o0 o1 B7 F7 => ?_⟩
        refine ⟨_, _, rfl, rfl, ?_⟩
        have hf7 := F7 _ _ fp hf6
        refine ⟨_, rfl, _, rfl, _, rfl, f, _, rfl, SqL.of hf7, fun c1 H8 s8 n8 h8 => ?_⟩
        rw [cut_to (by rw [rz_len]; omega), rz_take] at h8
        have B8 := B7.same s8
        have c1p : c1 ≠ p := B7.new n8
        refine ⟨_, rfl, _, rfl, _, _, rfl, rfl, p, 1 + o + 1, n + 2 + 6 * i + 2, rfl, B8, by omega, by omega, by omega, fun t H9 t0 t1 B9 F9 => ?_⟩
        refine ⟨_, rfl, t, 1 + o, rfl, by omega, ?_, ?_, fun d H10 s10 n10 h10 => ?_⟩
        · exact lt_up (a := 8) (by omega) (by decide)
        · exact lt_up (a := 8) (by omega) (by decide)
        refine ⟨rfl, fun c2 H11 s11 n11 h11 => ?_⟩
        have h9 := F9 _ _ c1p h8
        have f9 := F9 _ _ fp (s8 _ _ hf7)
        refine ⟨c1, c2, _, _, rfl, rfl, s11 _ _ (s10 _ _ h9), h11, by simp only [rz_len, List.length_take, List.length_singleton]; exact small' (by have := G.len; omega), fun c3' H12 s12 n12 h12 => ?_⟩
        refine ⟨_, rfl, _, rfl, _, _, rfl, rfl, _, rfl, f, _, rfl, SqL.of (s12 _ _ (s11 _ _ (s10 _ _ f9))), fun c4 H13 s13 n13 h13 => ?_⟩
        rw [show ((an : Int) + 1) = ((an + 1 : Nat) : Int) by omega, cut_from (by rw [rz_len]; omega), rz_drop] at h13
        have lens : (rz (l.take an) ++ [V.ref d]).length + (rz (l.drop (an + 1))).length ≤ sizeLine := by
          have := G.len
          rw [List.length_append, rz_len, rz_len, List.length_take, List.length_drop, sizeLine_eq]
          show min an l.length + 1 + _ ≤ _
          omega
        refine ⟨c3', c4, _, _, rfl, rfl, s13 _ _ h12, h13, lens, fun c5 H14 s14 n14 h14 => ?_⟩
        have es : rz (l.take an) ++ [V.ref d] ++ rz (l.drop (an + 1)) = rz (l.set an (d, rq t (1 + o))) := by
          rw [List.set_eq_take_append_cons_drop, if_pos al, rz_app]
          show rz (l.take an) ++ [V.ref d] ++ rz (l.drop (an + 1)) = rz (l.take an) ++ (V.ref d :: rz (l.drop (an + 1)))
          rw [List.append_assoc] <;> rfl
        rw [es] at h14
        have s1014 : Same H10 H14 := s11.trans (s12.trans (s13.trans s14))
        have F79 : Fr p H7 H14 := (Fr.of s8).trans (F9.trans (.of (s10.trans s1014)))
        have G7 := (G6.fr B6 F7).fr B7 F79
        have F014 : Fr p H H14 := (F06.trans F7).trans F79
        have B14 := (B9.same s10).same s1014
        have c5p : c5 ≠ p := (((((B9.same s10).same s11).same s12).same s13)).new n14
        have fd14 : FrQ K H14 d (rq t (1 + o)) := FrQ.same h10 s1014
        have pd : Part (rq t (1 + o)) := Part.rq t0 (by omega) (by omega) (by omega)
        have ps : ∀ z ∈ l.set an (d, rq t (1 + o)), Part z.2 := fun z hz => by
          rcases mem_set hz with h | h
          · exact G.pa z h
          · rw [h]
            exact pd
        have fs : FL K H14 (l.set an (d, rq t (1 + o))) := fun z hz => by
          rcases mem_set hz with h | h
          · exact G7.fl z h
          · rw [h]
            exact fd14
        refine ⟨_, rfl, c5, _, true, rfl, SqL.of h14, fs, fun z hz => part_big (ps z hz), parts_add (mem_q ps) (by rw [List.length_map, List.length_set, G.len]; omega), fun wq H15 s15 hw => ?_⟩
        have hw' : SqT K H15 wq [.int (zsum ((l.set an (d, rq t (1 + o))).map (·.2))).num, .int ((zsum ((l.set an (d, rq t (1 + o))).map (·.2))).den : Int)] := hw
        have f15 := s15 _ _ (s14 _ _ (s13 _ _ (s12 _ _ (s11 _ _ (s10 _ _ f9)))))
        have B15 := (B14.same s15).mono (show n + 2 + 6 * i + 2 + 1 ≤ n + 2 + 6 * (i + 1) by omega)
        have F15 := F014.trans (.of s15)
        refine ⟨_, rfl, wq, _, 0, _, rfl, rfl, hw', at0, _, rfl, wq, _, 1, _, rfl, rfl, hw', at1, _, _, rfl, rfl, _, rfl, ite2 (fun cw => ?_) (fun cw => ?_)⟩
        · have w3 : w = 3 := V.int.inj (of_decide_eq_true c3)
          have le1 := (le_one_iff _).mp (of_decide_eq_true cw)
          refine ⟨_, rfl, lf, c5, l.set an (d, rq t (1 + o)), _, _, _, _, _, _, rfl, s15 _ _ h14, ?_, ?_, ⟨fs.same s15, by rw [List.length_set, G.len], ps, le1⟩, lf0, lf1, fun z => absurd w3 z, B15, F15⟩
          · exact fr_new ((F06.trans F7).trans ((Fr.of s8).trans (F9.trans (.of (s10.trans (s11.trans (s12.trans s13))))))) n14 c5p
          · exact c5p
        · exact ⟨_, rfl, lf, f, l, _, _, _, _, _, _, rfl, f15, nf, fp, G7.same s15, lf0, lf1, inv, B15, F15⟩
      · have f6 := G6.fl y my
        have hf6' : SqL K H6 f (rz l) := SqL.of hf6
        have gx : (rz l)[an]? = some (.ref y.1) := by
          unfold rz
          rw [List.getElem?_map, ga] <;> rfl
        have w3 : w ≠ 3 := fun e => c3 (by rw [e]; exact decide_eq_true rfl)
        refine ⟨_, rfl, _, rfl, f, _, (an : Int), _, rfl, rfl, hf6', at_of rfl gx, rfl, fun z1 H7 s7 n7 h7 => ?_⟩
        have q0 : FrQ K H7 z1 0 := .of h7
        refine ⟨dq y.2, dq 0, (f6.same s7).dp, q0.dp, rfl, rfl, _, rfl, ?_⟩
        rw [eqv_dq]
        have B7 := B6.same s7
        have hf7 := s7 _ _ hf6
        have G7 := G6.same s7
        have F07 := F06.trans (.of s7)
        refine ite2 (fun cz => ?_) (fun cz => ?_)
        · have y0 : y.2 = 0 := of_decide_eq_true cz
          refine ⟨_, rfl, rfl, _, rfl, ite2 (fun cw => ?_) (fun cw => ?_)⟩
          · refine ⟨_, rfl, _, rfl, _, _, rfl, rfl, wide_div (b := 3) (by decide) (by decide) (by decide) (by decide), _, _, rfl, rfl, _, rfl, ite2 (fun ct => ?_) (fun ct => ?_)⟩
            · refine ⟨_, rfl, ?_⟩
              refine ⟨_, rfl, _, rfl, _, _, rfl, rfl, _, rfl, _, rfl, lf, 1 + b, rfl, by omega, lt_up (a := 8) (by omega) (by decide), lt_up (a := 8) (by omega) (by decide), fun d H9 s9 n9 h9 => ?_⟩
              refine ⟨rfl, fun u H10 s10 n10 h10 => ?_⟩
              have s810 := s9.trans s10
              have hf10 := s810 _ _ hf7
              refine ⟨u, _, rfl, SqT.of h10, rfl, _, _, rfl, _, _, rfl, _, rfl, _, rfl, f, _, (an : Int), an, rfl, rfl, hf10, by rw [rz_len]; unfold ixN; rw [if_pos (by omega), if_pos (by omega), Int.toNat_natCast], rfl, ?_⟩
              rw [rz_set l an (d, rq lf (1 + b))]
              have pd : Part (rq lf (1 + b)) := Part.rq lf0 (by omega) (by omega) (by omega)
              have G10 := G7.same s810
              have fd : FrQ K H10 d (rq lf (1 + b)) := h9.same s10
              have ps : ∀ z ∈ l.set an (d, rq lf (1 + b)), Part z.2 := fun z hz => by
                rcases mem_set hz with h | h
                · exact G.pa z h
                · rw [h]
                  exact pd
              have fs : FL K H10 (l.set an (d, rq lf (1 + b))) := fun z hz => by
                rcases mem_set hz with h | h
                · exact G10.fl z h
                · rw [h]
                  exact fd
              have eq := goes_sum (d := d) ga y0 (inv w3) lf0 (Int.le_refl lf) lf1 (by omega)
              refine ⟨lf - lf, f, l.set an (d, rq lf (1 + b)), _, _, _, _, _, _, rfl, upd_same, nf, fp, ⟨fs.put hf10, by rw [List.length_set, G.len], ps, eq.2⟩, by omega, by omega, fun _ => eq.1, ((B7.same s810).upd fp).mono (by omega), (F07.trans (.of s810)).put' nf⟩
            · refine ⟨_, rfl, _, rfl, _, _, rfl, rfl, p, lf + 1, n + 2 + 6 * i + 1, rfl, B7, by omega, by omega, by omega, fun tp H8 tp0 tp1 B8 F8 => ?_⟩
              have F08 := F07.trans F8
              have hf8 := F8 _ _ fp hf7
              have G8 := G7.fr B7 F8
              have tpl : tp ≤ lf := by omega
              refine ⟨_, rfl, _, rfl, _, _, rfl, rfl, _, rfl, _, rfl, tp, 1 + b, rfl, by omega, lt_up (a := 8) (by omega) (by decide), lt_up (a := 8) (by omega) (by decide), fun d H9 s9 n9 h9 => ?_⟩
              refine ⟨rfl, fun u H10 s10 n10 h10 => ?_⟩
              have s810 := s9.trans s10
              have hf10 := s810 _ _ hf8
              refine ⟨u, _, rfl, SqT.of h10, rfl, _, _, rfl, _, _, rfl, _, rfl, _, rfl, f, _, (an : Int), an, rfl, rfl, hf10, by rw [rz_len]; unfold ixN; rw [if_pos (by omega), if_pos (by omega), Int.toNat_natCast], rfl, ?_⟩
              rw [rz_set l an (d, rq tp (1 + b))]
              have pd : Part (rq tp (1 + b)) := Part.rq tp0 (by omega) (by omega) (by omega)
              have G10 := G8.same s810
              have fd : FrQ K H10 d (rq tp (1 + b)) := h9.same s10
              have ps : ∀ z ∈ l.set an (d, rq tp (1 + b)), Part z.2 := fun z hz => by
                rcases mem_set hz with h | h
                · exact G.pa z h
                · rw [h]
                  exact pd
              have fs : FL K H10 (l.set an (d, rq tp (1 + b))) := fun z hz => by
                rcases mem_set hz with h | h
                · exact G10.fl z h
                · rw [h]
                  exact fd
              have eq := goes_sum (d := d) ga y0 (inv w3) tp0 tpl lf1 (by omega)
              refine ⟨lf - tp, f, l.set an (d, rq tp (1 + b)), _, _, _, _, _, _, rfl, upd_same, nf, fp, ⟨fs.put hf10, by rw [List.length_set, G.len], ps, eq.2⟩, by omega, by omega, fun _ => eq.1, ((B8.same s810).upd fp).mono (by omega), (F08.trans (.of s810)).put' nf⟩
          · refine ⟨_, rfl, _, rfl, _, _, rfl, rfl, p, lf + 1, n + 2 + 6 * i + 1, rfl, B7, by omega, by omega, by omega, fun tp H8 tp0 tp1 B8 F8 => ?_⟩
            have F08 := F07.trans F8
            have hf8 := F8 _ _ fp hf7
            have G8 := G7.fr B7 F8
            have tpl : tp ≤ lf := by omega
            refine ⟨_, rfl, _, rfl, _, _, rfl, rfl, _, rfl, _, rfl, tp, 1 + b, rfl, by omega, lt_up (a := 8) (by omega) (by decide), lt_up (a := 8) (by omega) (by decide), fun d H9 s9 n9 h9 => ?_⟩
            refine ⟨rfl, fun u H10 s10 n10 h10 => ?_⟩
            have s810 := s9.trans s10
            have hf10 := s810 _ _ hf8
            refine ⟨u, _, rfl, SqT.of h10, rfl, _, _, rfl, _, _, rfl, _, rfl, _, rfl, f, _, (an : Int), an, rfl, rfl, hf10, by rw [rz_len]; unfold ixN; rw [if_pos (by omega), if_pos (by omega), Int.toNat_natCast], rfl, ?_⟩
            rw [rz_set l an (d, rq tp (1 + b))]
            have pd : Part (rq tp (1 + b)) := Part.rq tp0 (by omega) (by omega) (by omega)
            have G10 := G8.same s810
            have fd : FrQ K H10 d (rq tp (1 + b)) := h9.same s10
            have ps : ∀ z ∈ l.set an (d, rq tp (1 + b)), Part z.2 := fun z hz => by
              rcases mem_set hz with h | h
              · exact G.pa z h
              · rw [h]
                exact pd
            have fs : FL K H10 (l.set an (d, rq tp (1 + b))) := fun z hz => by
              rcases mem_set hz with h | h
              · exact G10.fl z h
              · rw [h]
                exact fd
            have eq := goes_sum (d := d) ga y0 (inv w3) tp0 tpl lf1 (by omega)
            refine ⟨lf - tp, f, l.set an (d, rq tp (1 + b)), _, _, _, _, _, _, rfl, upd_same, nf, fp, ⟨fs.put hf10, by rw [List.length_set, G.len], ps, eq.2⟩, by omega, by omega, fun _ => eq.1, ((B8.same s810).upd fp).mono (by omega), (F08.trans (.of s810)).put' nf⟩
        · exact ⟨lf, f, l, _, _, _, _, _, _, rfl, hf7, nf, fp, G7, lf0, lf1, inv, B7.mono (by omega), F07⟩
    · rintro σ H0 ⟨lf, f, l, v6, v7, v8, v9, v10, v11, rfl, hf, nf, fp, G, lf0, lf1, inv, B, F⟩
      refine ⟨_, rfl, f, _, rfl, .inl ⟨SqL.of hf, fun g ng => ?_⟩⟩
      have sg : Same H0 (upd H0 g (.tup (rz l))) := same_new ng
      have Gg := G.same sg
      exact q g l _ upd_same Gg.fl G.len G.pa G.one ((B.same sg).mono (by omega)) (F.trans (.of sg))

end
end KR
namespace KR
open PySem PySem.Spec PyProof.Rows L2
section
variable {P : Program} {w : World} {K : PySem.W.Frag} {mg : Str → Option Value} {base : Heap}
def sp_l_kinds (K : PySem.W.Frag) : Sp := fun vs H Q _ => ∃ (p : Addr) (k n : Nat), vs = [.ref p, .int (k : Int)] ∧ BoxAt H p n ∧ n ≤ 999990000 ∧ 1 ≤ k ∧ k ≤ 6 ∧ ∀ (f : Addr) (ks : List Kn) (H' : Hp), H' f = some (.lst (rk ks)) → KnL K H' k ks → ks.length = k → BoxAt H' p (n + 300) → Fr p H H' → f ≠ p → H f = none → Q (.ref f) H'
theorem ok_l_kinds (T : All K mg) : FnOk P w K mg base CX0 5 T.f_l_kinds T.fd_l_kinds ["_law_box_here", "_law_many"] (sp_l_kinds K) := by
  refine T.d_l_kinds.fn.ok sc_l_kinds (fun vs H Q E h => ?_) (fun cdv A outer s H vs Q E hr h => ?_)
  · obtain ⟨p, k, n, rfl, _⟩ := h
    rfl
  · obtain ⟨p, k, n, rfl, hB, hn, k1, k6, q⟩ := h
    refine ⟨_, (pss_cons (ps_set (i := 2) sc_l_kinds.nd rfl (by first | exact Or.inl rfl | exact Or.inr rfl) (pe_lstI pa_nil))
      (pss_cons (ps_for PassesOwn.never rfl (pi_range1 (by rfl) T.b_range (pa_cons (pv 1) pa_nil)) (pg_name (i := 3) sc_l_kinds.nd rfl (by first | exact Or.inl rfl | exact Or.inr rfl)) (pss_cons (ps_par (i := 4) (j := 5) (by rfl) sc_l_kinds.nd rfl rfl (by decide) rfl rfl (pa_cons (pe_call (ok_l_take T) (hr.mono (by decide)) (by rfl) T.d_l_take.mg T.d_l_take.fn.kp T.d_l_take.b .nil pass0 (pa_cons (pv 0) (pa_cons (pe_ix (ixL (K := K) rfl) (pe_lstI (pa_cons pe_int (pa_cons pe_int (pa_cons (pe_op op_add (pe_op op_pow pe_int pe_int) pe_int) pa_nil)))) (pe_call (ok_l_take T) (hr.mono (by decide)) (by rfl) T.d_l_take.mg T.d_l_take.fn.kp T.d_l_take.b .nil pass0 (pa_cons (pv 0) (pa_cons pe_int pa_nil))) (fun _ _ => rfl)) pa_nil))) (pa_cons (pe_op op_add pe_int (pe_call (ok_l_take T) (hr.mono (by decide)) (by rfl) T.d_l_take.mg T.d_l_take.fn.kp T.d_l_take.b .nil pass0 (pa_cons (pv 0) (pa_cons pe_int pa_nil)))) pa_nil)) (by rfl))
      (pss_cons (ps_set (i := 6) sc_l_kinds.nd rfl (by first | exact Or.inl rfl | exact Or.inr rfl) (pe_ix (ixL (K := K) rfl) (pe_lstI (pa_cons (pe_tupI (pa_cons pe_int (pa_cons pe_int pa_nil))) (pa_cons (pe_tupI (pa_cons pe_int (pa_cons pe_int pa_nil))) (pa_cons (pe_call (ok_l_low T) (hr.mono (by decide)) (by rfl) T.d_l_low.mg T.d_l_low.fn.kp T.d_l_low.b .nil pass0 (pa_cons (pe_call (ok_l_take T) (hr.mono (by decide)) (by rfl) T.d_l_take.mg T.d_l_take.fn.kp T.d_l_take.b .nil pass0 (pa_cons (pv 0) (pa_cons (pe_op op_add (pv 5) pe_int) pa_nil))) (pa_cons (pv 5) pa_nil))) pa_nil)))) (pe_callB (call_min2 rfl) (by rfl) T.b_min (by decide +kernel) (pa_cons pe_int (pa_cons (pe_call (ok_l_take T) (hr.mono (by decide)) (by rfl) T.d_l_take.mg T.d_l_take.fn.kp T.d_l_take.b .nil pass0 (pa_cons (pv 0) (pa_cons pe_int pa_nil))) pa_nil))) (fun _ _ => rfl)))
      (pss_one (ps_expr (pe_bm PySem.F.plainAttrs_list PySem.F.slot_list_append PySem.F.type_list_append mt_append (pv 2) (pa_cons (pe_tupI (pa_cons (pv 4) (pa_cons (pv 6) (pa_cons (pe_call (ok_l_goes T) hr (by rfl) T.d_l_goes.mg T.d_l_goes.fn.kp T.d_l_goes.b .nil pass0 (pa_cons (pv 0) (pa_cons (pv 1) pa_nil))) pa_nil)))) pa_nil)))))))
      (pss_one (ps_ret (pv 2))))), ?_⟩
    refine ⟨rfl, fun f H1 s1 n1 h1 => ?_⟩
    have fp : f ≠ p := hB.new n1
    refine ⟨_, rfl, k, rfl, by omega, by omega, for_range (lo := 0) (n := k) (fun i σ H' => ∃ (ks : List Kn) (v3 v4 v5 v6 : Option V), σ = [some (.ref p), some (.int (k : Int)), some (.ref f), v3, v4, v5, v6] ∧ H' f = some (.lst (rk ks)) ∧ KnL K H' k ks ∧ ks.length = i ∧ BoxAt H' p (n + 45 * i) ∧ Fr p H H')
      ⟨[], none, none, none, none, rfl, h1, fun z hz => absurd hz List.not_mem_nil, rfl, hB.same s1, .of s1⟩ ?_ ?_⟩
    · rintro i σ H0 hi ⟨ks, v3, v4, v5, v6, rfl, hf, L, len, B, F⟩
      refine ⟨_, rfl, _, _, rfl, rfl, ⟨by decide, by decide, by decide⟩, _, _, rfl, rfl, rfl, fun l1 H2 s2 n2 h2 => ?_⟩
      have B2 := B.same s2
      have l1p : l1 ≠ p := B.new n2
      refine ⟨_, rfl, p, 3, n + 45 * i, rfl, B2, by omega, by decide, by decide, fun w H3 w0 w1 B3 F3 => ?_⟩
      obtain ⟨m, em, m0, m1⟩ : ∃ m : Int, atI ([.int 3, .int 100, .int (10 ^ (6 : Int).toNat + 1)] : List V) w = some (.int m) ∧ 0 < m ∧ m ≤ 1000001 := by
        have ws : w = 0 ∨ w = 1 ∨ w = 2 := by omega
        rcases ws with e | e | e <;> subst e
        · exact ⟨_, rfl, by decide, by decide⟩
        · exact ⟨_, rfl, by decide, by decide⟩
        · exact ⟨_, rfl, by decide, by decide⟩
      refine ⟨l1, _, w, _, rfl, rfl, SqL.of (F3 _ _ l1p h2), em, p, m, n + 45 * i + 1, rfl, B3, by omega, m0, by omega, fun fr H4 fr0 fr1 B4 F4 => ?_⟩
      refine ⟨_, rfl, p, 12, n + 45 * i + 2, rfl, B4, by omega, by decide, by decide, fun b H5 b0 b1 B5 F5 => ?_⟩
      refine ⟨_, _, rfl, rfl, _, _, rfl, ?_⟩
      have F25 : Fr p H2 H5 := F3.trans (F4.trans F5)
      refine ⟨rfl, fun t1 H6 s6 n6 h6 => ⟨rfl, fun t2 H7 s7 n7 h7 => ?_⟩⟩
      have B7 := (B5.same s6).same s7
      refine ⟨_, rfl, _, rfl, _, _, rfl, rfl, p, 1 + b + 1, n + 45 * i + 3, rfl, B7, by omega, by omega, by omega, fun t H8 t0 t4 B8 F8 => ?_⟩
      refine ⟨_, rfl, t, 1 + b, rfl, by omega, lt_up (a := 8) (by omega) (by decide), lt_up (a := 8) (by omega) (by decide), fun t3 H9 s9 n9 h9 => ⟨rfl, fun l2 H10 s10 n10 h10 => ?_⟩⟩
      have B10 := (B8.same s9).same s10
      have l2p : l2 ≠ p := (B8.same s9).new n10
      refine ⟨_, rfl, p, 6, n + 45 * i + 4, rfl, B10, by omega, by decide, by decide, fun z H11 z0 z6 B11 F11 => ?_⟩
      refine ⟨_, _, rfl, ?_⟩
      have s910 := s9.trans s10
      have F8' : Fr p H7 H11 := F8.trans ((Fr.of s910).trans F11)
      have pick : ∃ (d : Addr) (r : Rat), atI [V.ref t1, V.ref t2, V.ref t3] (if z < 2 then z else 2) = some (.ref d) ∧ FrQ K H11 d r ∧ Part r := by
        have f1 : FrQ K H11 t1 1 := FrQ.fr (.of (s7 _ _ h6)) B7 F8'
        have f2 : FrQ K H11 t2 0 := FrQ.fr (.of h7) B7 F8'
        have f3 : FrQ K H11 t3 (rq t (1 + b)) := FrQ.fr (h9.same s10) B10 F11
        have zs : z = 0 ∨ z = 1 ∨ ¬ z < 2 := by omega
        rcases zs with e | e | e
        · subst e
          exact ⟨t1, 1, rfl, f1, ⟨by decide, by decide, by decide⟩⟩
        · subst e
          exact ⟨t2, 0, rfl, f2, Part.zero⟩
        · rw [if_neg e]
          exact ⟨t3, _, rfl, f3, Part.rq t0 (by omega) (by omega) (by omega)⟩
      obtain ⟨d, r, ed, hd, pr⟩ := pick
      refine ⟨l2, _, _, _, rfl, rfl, SqL.of (F11 _ _ l2p h10), ed, ?_⟩
      have F011 : Fr p H0 H11 := (Fr.of s2).trans (F25.trans ((Fr.of (s6.trans s7)).trans F8'))
      have hf11 := F011 _ _ fp hf
      refine ⟨_, rfl, .inl ⟨rfl, _, SqL.of hf11⟩, _, rfl, _, rfl, _, rfl, _, rfl, p, k, n + 45 * i + 5, rfl, B11, by omega, k1, k6, fun g l H12 hg fl gl pa one B12 F12 => ?_⟩
      refine ⟨rfl, fun a H13 s13 n13 h13 => ?_⟩
      have F013 : Fr p H0 H13 := (F011.trans F12).trans (.of s13)
      have hf13 := F013 _ _ fp hf
      refine ⟨f, _, _, rfl, rfl, hf13, by rw [rk_len]; exact small' (by omega), ?_⟩
      have ok : KnOk K H13 k ⟨a, d, g, fr, r, l⟩ := ⟨SqT.of h13, (hd.fr B11 F12).same s13, SqT.of (s13 _ _ hg), ⟨fl.same s13, gl, pa, one⟩, pr, fr0, by show fr ≤ 1000000; omega⟩
      have nf : H f = none := n1
      refine ⟨ks ++ [⟨a, d, g, fr, r, l⟩], _, _, _, _, rfl, ?_, fun y hy => ?_, by rw [List.length_append, len] <;> rfl, ((B12.same s13).upd fp).mono (by omega), (F.trans F013).put' nf⟩
      · rw [upd_same]
        unfold rk
        rw [List.map_append] <;> rfl
      · rcases List.mem_append.mp hy with h | h
        · exact ((L y h).fr B F013).put hf13
        · rw [List.mem_singleton.mp h]
          exact ok.put hf13
    · rintro σ H0 ⟨ks, v3, v4, v5, v6, rfl, hf, L, len, B, F⟩
      exact ⟨_, rfl, q f ks H0 hf L len (B.mono (by omega)) F fp n1⟩

end
end KR
namespace KR
open PySem PySem.Spec PyProof.Rows L2
section
variable {P : Program} {w : World} {K : PySem.W.Frag} {mg : Str → Option Value} {base : Heap}
def sp_l_amounts (K : PySem.W.Frag) : Sp := fun vs H Q _ => ∃ (p : Addr) (k n : Nat) (st : Int), vs = [.ref p, .int (k : Int), .int st] ∧ BoxAt H p n ∧ n ≤ 999990000 ∧ 1 ≤ k ∧ k ≤ 6 ∧ 1 ≤ st ∧ st ≤ 2 ∧ ∀ (f : Addr) (l : List Fz) (H' : Hp), H' f = some (.lst (rz l)) → FL K H' l → l.length = k → (∀ z ∈ l, AmS z.2) → BoxAt H' p (n + 100) → Fr p H H' → f ≠ p → H f = none → Q (.ref f) H'
theorem ok_l_amounts (T : All K mg) : FnOk P w K mg base CX0 2 T.f_l_amounts T.fd_l_amounts ["_law_box_here", "_law_many", "_law_sorts"] (sp_l_amounts K) := by
  refine T.d_l_amounts.fn.ok sc_l_amounts (fun vs H Q E h => ?_) (fun cdv A outer s H vs Q E hr h => ?_)
  · obtain ⟨p, k, n, st, rfl, _⟩ := h
    rfl
  · obtain ⟨p, k, n, st, rfl, hB, hn, k1, k6, st1, st2, q⟩ := h
    refine ⟨_, (pss_cons (ps_set (i := 3) sc_l_amounts.nd rfl (by first | exact Or.inl rfl | exact Or.inr rfl) (pe_lstI pa_nil))
      (pss_cons (ps_for PassesOwn.never rfl (pi_range1 (by rfl) T.b_range (pa_cons (pv 1) pa_nil)) (pg_name (i := 4) sc_l_amounts.nd rfl (by first | exact Or.inl rfl | exact Or.inr rfl)) (pss_cons (ps_set (i := 5) sc_l_amounts.nd rfl (by first | exact Or.inl rfl | exact Or.inr rfl) (pe_call (ok_l_take T) hr (by rfl) T.d_l_take.mg T.d_l_take.fn.kp T.d_l_take.b .nil pass0 (pa_cons (pv 0) (pa_cons (pe_ix (ixL (K := K) rfl) (pe_lstI (pa_cons pe_int (pa_cons pe_int (pa_cons (pe_op op_pow pe_int pe_int) pa_nil)))) (pe_call (ok_l_take T) hr (by rfl) T.d_l_take.mg T.d_l_take.fn.kp T.d_l_take.b .nil pass0 (pa_cons (pv 0) (pa_cons (pv 2) pa_nil))) (fun _ _ => rfl)) pa_nil))))
      (pss_one (ps_expr (pe_bm PySem.F.plainAttrs_list PySem.F.slot_list_append PySem.F.type_list_append mt_append (pv 3) (pa_cons (pe_call (ok_l_low T) hr (by rfl) T.d_l_low.mg T.d_l_low.fn.kp T.d_l_low.b .nil pass0 (pa_cons (pv 5) (pa_cons (pe_op op_add pe_int (pe_call (ok_l_take T) hr (by rfl) T.d_l_take.mg T.d_l_take.fn.kp T.d_l_take.b .nil pass0 (pa_cons (pv 0) (pa_cons (pe_ix (ixL (K := K) rfl) (pe_lstI (pa_cons pe_int (pa_cons pe_int (pa_cons (pe_op op_sub (pe_op op_pow pe_int pe_int) pe_int) pa_nil)))) (pe_call (ok_l_take T) hr (by rfl) T.d_l_take.mg T.d_l_take.fn.kp T.d_l_take.b .nil pass0 (pa_cons (pv 0) (pa_cons (pv 2) pa_nil))) (fun _ _ => rfl)) pa_nil)))) pa_nil))) pa_nil))))))
      (pss_one (ps_ret (pv 3))))), ?_⟩
    refine ⟨rfl, fun f H1 s1 n1 h1 => ?_⟩
    have fp : f ≠ p := hB.new n1
    refine ⟨_, rfl, k, rfl, by omega, by omega, for_range (lo := 0) (n := k) (fun i σ H' => ∃ (l : List Fz) (v4 v5 : Option V), σ = [some (.ref p), some (.int (k : Int)), some (.int st), some (.ref f), v4, v5] ∧ H' f = some (.lst (rz l)) ∧ FL K H' l ∧ (∀ z ∈ l, AmS z.2) ∧ l.length = i ∧ BoxAt H' p (n + 16 * i) ∧ Fr p H H')
      ⟨[], none, none, rfl, h1, .nil, fun z hz => absurd hz List.not_mem_nil, rfl, hB.same s1, .of s1⟩ ?_ ?_⟩
    · rintro i σ H0 hi ⟨l, v4, v5, rfl, hf, L, am, len, B, F⟩
      refine ⟨_, rfl, _, _, rfl, rfl, ⟨by decide, by decide, by decide⟩, rfl, fun l1 H2 s2 n2 h2 => ?_⟩
      have B2 := B.same s2
      have l1p : l1 ≠ p := B.new n2
      refine ⟨_, rfl, _, rfl, p, st, n + 16 * i, rfl, B2, by omega, by omega, by omega, fun w H3 w0 w1 B3 F3 => ?_⟩
      obtain ⟨m, em, m0, m1⟩ : ∃ m : Int, atI ([.int 2, .int 1000, .int (10 ^ (40 : Int).toNat)] : List V) w = some (.int m) ∧ 0 < m ∧ m ≤ 1000 := by
        have ws : w = 0 ∨ w = 1 := by omega
        rcases ws with e | e <;> subst e
        · exact ⟨_, rfl, by decide, by decide⟩
        · exact ⟨_, rfl, by decide, by decide⟩
      refine ⟨l1, _, w, _, rfl, rfl, SqL.of (F3 _ _ l1p h2), em, p, m, n + 16 * i + 1, rfl, B3, by omega, m0, by omega, fun tp H4 tp0 tp1 B4 F4 => ?_⟩
      have F24 : Fr p H0 H4 := (Fr.of s2).trans (F3.trans F4)
      have hf4 := F24 _ _ fp hf
      refine ⟨_, rfl, .inl ⟨rfl, _, SqL.of hf4⟩, _, rfl, _, rfl, _, _, rfl, rfl, ⟨by decide, by decide, by decide⟩, _, _, rfl, rfl, rfl, fun l2 H5 s5 n5 h5 => ?_⟩
      have B5 := B4.same s5
      have l2p : l2 ≠ p := B4.new n5
      refine ⟨_, rfl, _, rfl, p, st, n + 16 * i + 2, rfl, B5, by omega, by omega, by omega, fun x H6 x0 x1 B6 F6 => ?_⟩
      obtain ⟨m', em', m0', m1'⟩ : ∃ m : Int, atI ([.int 1, .int 60, .int (10 ^ (40 : Int).toNat - 1)] : List V) x = some (.int m) ∧ 0 < m ∧ m ≤ 60 := by
        have ws : x = 0 ∨ x = 1 := by omega
        rcases ws with e | e <;> subst e
        · exact ⟨_, rfl, by decide, by decide⟩
        · exact ⟨_, rfl, by decide, by decide⟩
      refine ⟨l2, _, x, _, rfl, rfl, SqL.of (F6 _ _ l2p h5), em', p, m', n + 16 * i + 3, rfl, B6, by omega, m0', by omega, fun y H7 y0 y1 B7 F7 => ?_⟩
      refine ⟨_, _, rfl, rfl, tp, 1 + y, rfl, by omega, lt_up (b133 (by omega)) (by decide), lt_up (b133 (by omega)) (by decide), fun d H8 s8 n8 h8 => ?_⟩
      have F08 : Fr p H0 H8 := F24.trans ((Fr.of s5).trans (F6.trans (F7.trans (.of s8))))
      have hf8 := F08 _ _ fp hf
      refine ⟨f, _, _, rfl, rfl, hf8, by rw [rz_len]; exact small' (by omega), ?_⟩
      have nf : H f = none := n1
      refine ⟨l ++ [(d, rq tp (1 + y))], _, _, rfl, by rw [upd_same, rz_snoc], ?_, fun z hz => ?_, by rw [List.length_append, len] <;> rfl, ((B7.same s8).upd fp).mono (by omega), (F.trans F08).put' nf⟩
      · exact FL.put (FL.snoc (L.fr B F08) h8) hf8
      · rcases List.mem_append.mp hz with h | h
        · exact am z h
        · rw [List.mem_singleton.mp h]
          exact AmS.rq tp0 (by omega) (by omega) (by omega)
    · rintro σ H0 ⟨l, v4, v5, rfl, hf, L, am, len, B, F⟩
      exact ⟨_, rfl, q f l H0 hf L len am (B.mono (by omega)) F fp n1⟩

end
end KR
namespace KR
open PySem PySem.Spec PyProof.Rows L2
section
variable {P : Program} {w : World} {K : PySem.W.Frag} {mg : Str → Option Value} {base : Heap}
def sp_l_once (K : PySem.W.Frag) : Sp := fun vs H Q _ => ∃ (kl al : Addr) (ks : List Kn) (am : List Fz) (M B : Nat), vs = [.ref kl, .ref al] ∧ SqL K H kl (rk ks) ∧ SqL K H al (rz am) ∧ KnL K H ks.length ks ∧ FL K H am ∧ am.length = ks.length ∧ ks.length ≤ 6 ∧ AmOk M B (am.map (·.2)) ∧
  ∀ (f : Addr) (l : List Fz) (H' : Hp), Same H H' → H f = none → H' f = some (.lst (rz l)) → FL K H' l → l.map (·.2) = onceQ (ks.map Kn.q) (am.map (·.2)) → Q (.ref f) H'
theorem ok_l_once (T : All K mg) : FnOk P w K mg base CX0 4 T.f_l_once T.fd_l_once ["_law_kinds_here", "_law_amounts_here"] (sp_l_once K) := by
  refine T.d_l_once.fn.ok sc_l_once (fun vs H Q E h => ?_) (fun cdv A outer s H vs Q E hr h => ?_)
  · obtain ⟨kl, al, ks, am, M, B, rfl, _⟩ := h
    rfl
  · obtain ⟨kl, al, ks, am, M, B, rfl, hk, ha, L, fa, len, l6, ok, q⟩ := h
    refine ⟨_, (pss_cons (ps_set (i := 2) sc_l_once.nd rfl (by first | exact Or.inl rfl | exact Or.inr rfl) (pe_lstI pa_nil))
      (pss_cons (ps_for PassesOwn.never rfl (pi_enumB (K := K) rfl (by rfl) T.b_enumerate (pa_cons (pv 0) pa_nil)) (pg_tupK (K := K) rfl rfl (pgs_cons (pg_name (i := 3) sc_l_once.nd rfl (by first | exact Or.inl rfl | exact Or.inr rfl)) (pgs_cons (pg_name (i := 4) sc_l_once.nd rfl (by first | exact Or.inl rfl | exact Or.inr rfl)) pgs_nil))) (pss_cons (ps_setLc (i := 5) (own := [("_law_one", 6), ("_law_other", 7)]) (g := gTup K 2 (gCons (gName 6) (gCons (gName 7) gNil))) (tt := tYes) (by rfl) sc_l_once.nd rfl rfl (sw_true rfl rfl rfl (by decide +kernel)) (pi_zipB (K := K) rfl (by rfl) T.b_zip (pa_cons (pv 1) (pa_cons (pv 0) pa_nil))) (blkOk_by (own := [("_law_one", 6), ("_law_other", 7)]) (N := ["_law_kinds_here", "_law_amounts_here", "_law_found", "_law_place", "_law_kind", "_law_some", "_law_one", "_law_other"]) (sc := defScope s_l_once) (by decide +kernel)) (fun _ _ _ _ _ => (pg_tupK (K := K) rfl rfl (pgs_cons (pg_name (i := 6) sc_l_once.nd rfl (by first | exact Or.inl rfl | exact Or.inr rfl)) (pgs_cons (pg_name (i := 7) sc_l_once.nd rfl (by first | exact Or.inl rfl | exact Or.inr rfl)) pgs_nil)))) (fun _ _ _ _ _ => pts_nil) (fun _ _ _ _ _ => (pe_call (ok_l_by T) (hr.mono (by decide)) (by rfl) T.d_l_by.mg T.d_l_by.fn.kp T.d_l_by.b .nil pass0 (pa_cons (pe_call (ok_l_by T) (hr.mono (by decide)) (by rfl) T.d_l_by.mg T.d_l_by.fn.kp T.d_l_by.b .nil pass0 (pa_cons (pv 6) (pa_cons (pe_ix (ixT (K := K) rfl) (pv 7) pe_int (fun _ _ => rfl)) pa_nil))) (pa_cons (pe_ix (ixT (K := K) rfl) (pe_ix (ixT (K := K) rfl) (pv 7) pe_int (fun _ _ => rfl)) (pv 3) (fun _ _ => rfl)) pa_nil)))))
      (pss_one (ps_expr (pe_bm PySem.F.plainAttrs_list PySem.F.slot_list_append PySem.F.type_list_append mt_append (pv 2) (pa_cons (pe_call (ok_l_plus T) (hr.mono (by decide)) (by rfl) T.d_l_plus.mg T.d_l_plus.fn.kp T.d_l_plus.b .nil pass0 (pa_cons (pe_tupI (pa_cons (pe_ix (ixT (K := K) rfl) (pv 4) pe_int (fun _ _ => rfl)) (pa_cons pe_int pa_nil))) (pa_cons (pe_call (ok_l_all T) hr (by rfl) T.d_l_all.mg T.d_l_all.fn.kp T.d_l_all.b .nil pass0 (pa_cons (pv 5) pa_nil)) pa_nil))) pa_nil))))))
      (pss_one (ps_ret (pv 2))))), ?_⟩
    have kq := kq_mem L
    have lq : (am.map (·.2)).length = (ks.map Kn.q).length := by rw [List.length_map, List.length_map, len]
    have k6 : (ks.map Kn.q).length ≤ 6 := by rw [List.length_map]; exact l6
    refine ⟨rfl, fun f H1 s1 n1 h1 => ?_⟩
    refine ⟨_, rfl, kl, rk ks, true, rfl, s1.seq hk, for_it (walk_enumB (K := K) (a := kl) (xs := rk ks) (p := true)) (fun i σ H' => ∃ (l : List Fz) (v3 v4 v5 v6 v7 : Option V), σ = [some (.ref kl), some (.ref al), some (.ref f), v3, v4, v5, v6, v7] ∧ Same H H' ∧ H' f = some (.lst (rz l)) ∧ FL K H' l ∧ l.map (·.2) = (onceQ (ks.map Kn.q) (am.map (·.2))).take i)
      ⟨[], none, none, none, none, none, rfl, s1, h1, .nil, rfl⟩ (fun i σ H' _ ⟨_, _, _, _, _, _, _, s, _⟩ => s.seq hk) ?_ ?_⟩
    · rintro i x σ H2 H3 hi ⟨l, v3, v4, v5, v6, v7, rfl, s2, hf, fl, el⟩ ⟨T0, x0, y0, rfl, hT, rfl, e0, ex⟩
      obtain rfl := Option.some.inj e0
      obtain ⟨k, ek, rfl⟩ := rk_get ex
      have il : i < ks.length := (List.getElem?_eq_some_iff.mp ek).1
      have sT : Same H2 (upd H2 T0 (.tup [.int (i : Nat), .ref k.a])) := same_new hT
      have hT3 : (upd H2 T0 (.tup [.int (i : Nat), .ref k.a])) T0 = some (.tup [.int (i : Nat), .ref k.a]) := upd_same
      generalize upd H2 T0 (.tup [.int (i : Nat), .ref k.a]) = H3 at sT hT3
      have s3 := s2.trans sT
      refine ⟨T0, _, rfl, SqT.of hT3, rfl, _, _, rfl, _, _, rfl, rfl, ?_⟩
      -- the row of what comes
      refine ⟨_, rfl, _, rfl, al, kl, rz am, rk ks, true, true, rfl, s3.seq ha, s3.seq hk, fun D hD => ?_⟩
      refine lc_it (walk_zipB (K := K) (a := al) (b := kl) (xs := rz am) (ys := rk ks) (p := true) (q := true) (n := ks.length) ((rz_len am).trans len) (rk_len ks)) (fun j H' => ∃ m : List Fz, Same H3 H' ∧ H' D = some (.lst (rz m)) ∧ FL K H' m ∧ m.map (·.2) = (comes (ks.map Kn.q) (am.map (·.2)) i).take j)
        ⟨[], same_new hD, upd_same, .nil, rfl⟩ (fun j H' _ ⟨m, s, _⟩ => ⟨s.seq (s3.seq ha), s.seq (s3.seq hk)⟩) ?_ ?_
      · rintro j v H4 H5 hj ⟨m, s4, hD4, fm, em⟩ ⟨U, x1, y1, rfl, hU, rfl, gx, gy⟩
        obtain ⟨za, ea, rfl⟩ := rz_get gx
        obtain ⟨kj, ekj, rfl⟩ := rk_get gy
        have sU : Same H4 (upd H4 U (.tup [.ref za.1, .ref kj.a])) := same_new hU
        have hU5 : (upd H4 U (.tup [.ref za.1, .ref kj.a])) U = some (.tup [.ref za.1, .ref kj.a]) := upd_same
        generalize upd H4 U (.tup [.ref za.1, .ref kj.a]) = H5 at sU hU5
        have s5 := s3.trans (s4.trans sU)
        have mk := List.mem_of_getElem? ekj
        have ma := List.mem_of_getElem? ea
        have mq : za.2 ∈ am.map (·.2) := List.mem_map.mpr ⟨za, ma, rfl⟩
        have KO := (L kj mk).same s5
        have fz := (fa za ma).same s5
        have gi : i < kj.goes.length := by rw [(L kj mk).go.len]; exact il
        have gg : kj.goes[i]? = some kj.goes[i] := List.getElem?_eq_getElem gi
        generalize kj.goes[i] = zg at gg
        have mg' := List.mem_of_getElem? gg
        have gx2 : (rz kj.goes)[i]? = some (.ref zg.1) := by
          unfold rz
          rw [List.getElem?_map, gg] <;> rfl
        have pz := KO.go.pa zg mg'
        refine ⟨U, _, rfl, SqT.of hU5, rfl, _, _, rfl, _, _, rfl, rfl, rfl, yesT ?_⟩
        refine ⟨_, rfl, _, rfl, kj.a, _, 1, _, rfl, rfl, KO.at_, at1, za.1, kj.d, za.2, kj.drip, rfl, fz, KO.dr, ok.one mq, part_big KO.pd, trivial, fun z1 H6 s6 n6 h6 => ?_⟩
        have KO6 := KO.same s6
        refine ⟨_, rfl, kj.a, _, 2, _, rfl, rfl, KO6.at_, at2, _, rfl, kj.g, _, (i : Int), _, rfl, rfl, KO6.gs, at_of rfl gx2, z1, zg.1, _, zg.2, rfl, h6, KO6.go.fl zg mg', ok.drips_big mq KO.pd, part_big pz, trivial, fun z2 H7 s7 n7 h7 => ?_⟩
        have s47 := sU.trans (s6.trans s7)
        have hD7 := s47 _ _ hD4
        have ml : m.length ≤ 6 := by
          have e := congrArg List.length em
          rw [List.length_map, List.length_take, comes_len lq, List.length_map] at e
          omega
        refine ⟨_, hD7, by rw [rz_len]; exact small' (by omega), m ++ [(z2, za.2 * kj.drip * zg.2)], Same.put (s4.trans s47) hD, by rw [upd_same, rz_snoc], FL.put (FL.snoc (fm.same s47) h7) hD7, ?_⟩
        have cg := comes_get (ks := ks.map Kn.q) (p := i) (rz_q ea) (by rw [List.getElem?_map, ekj] <;> rfl)
        rw [getD_goes gg] at cg
        rw [List.map_append, em, take_one cg] <;> rfl
      · rintro H4 ⟨m, s4, hD4, fm, em⟩
        have em' : m.map (·.2) = comes (ks.map Kn.q) (am.map (·.2)) i := by
          rw [em, ← List.length_map (as := ks) Kn.q, ← comes_len (p := i) lq, List.take_length]
        have s4' := s3.trans s4
        have hf4 := s4 _ _ (sT _ _ hf)
        have KO := (L k (List.mem_of_getElem? ek)).same s4'
        refine ⟨_, rfl, .inl ⟨rfl, _, SqL.of hf4⟩, _, rfl, k.a, _, 0, _, rfl, rfl, KO.at_, at0, rfl, fun u H5 s5 n5 h5 => ?_⟩
        have bigm : ∀ z ∈ m, Big z.2 := fun z hz => by
          have mm : z.2 ∈ m.map (·.2) := List.mem_map.mpr ⟨z, hz, rfl⟩
          rw [em'] at mm
          obtain ⟨c1, c2, c3⟩ := ok.all kq i _ mm
          exact ok.big c1 (Nat.dvd_refl _) c2 (AmOk.up (a := ok) c3)
        refine ⟨_, rfl, D, m, true, rfl, SqL.of (s5 _ _ hD4), fm.same s5, bigm, by rw [em']; exact ok.add kq k6 lq i, fun z H6 s6 hz => ?_⟩
        rw [em'] at hz
        refine ⟨u, z, (k.fresh : Rat), _, rfl, FrQ.int (s6 _ _ h5), hz, fresh_big KO.f0 KO.f1, ok.sum_big kq k6 lq i, trivial, fun r H7 s7 n7 h7 => ?_⟩
        have s47 := s5.trans (s6.trans s7)
        have hf7 := s47 _ _ hf4
        have ll : l.length ≤ 6 := by
          have e := congrArg List.length el
          rw [List.length_map, List.length_take, once_len, List.length_map] at e
          omega
        refine ⟨f, _, _, rfl, rfl, hf7, by rw [rz_len]; exact small' (by omega), ?_⟩
        refine ⟨l ++ [(r, (k.fresh : Rat) + zsum (comes (ks.map Kn.q) (am.map (·.2)) i))], _, _, _, _, _, rfl, Same.put (s4'.trans s47) n1, by rw [upd_same, rz_snoc], FL.put (FL.snoc (fl.same (sT.trans (s4.trans s47))) h7) hf7, ?_⟩
        have og := once_get (ks := ks.map Kn.q) (qs := am.map (·.2)) (i := i) (by rw [List.length_map]; exact il)
        have eo : onceAt (ks.map Kn.q) (am.map (·.2)) i = (k.fresh : Rat) + zsum (comes (ks.map Kn.q) (am.map (·.2)) i) := by
          unfold onceAt
          rw [getD_fresh ek]
        rw [eo] at og
        rw [List.map_append, el, take_one og] <;> rfl
    · rintro σ H2 ⟨l, v3, v4, v5, v6, v7, rfl, s2, hf, fl, el⟩
      refine ⟨_, rfl, q f l H2 s2 n1 hf fl ?_⟩
      rw [el, rk_len, ← List.length_map (as := ks) Kn.q, ← once_len (ks.map Kn.q) (am.map (·.2)), List.take_length]

end
end KR
namespace KR
open PySem PySem.Spec PyProof.Rows L2
section
variable {P : Program} {w : World} {K : PySem.W.Frag} {mg : Str → Option Value} {base : Heap}
def sp_l_strays (K : PySem.W.Frag) : Sp := fun vs H Q _ => ∃ (ra pl : Addr) (l : List Fz) (ps : List Nat), vs = [.ref ra, .ref pl] ∧ SqT K H ra (rz l) ∧ FL K H l ∧ l.length ≤ 6 ∧ H pl = some (.lst (ri ps)) ∧
  ∀ (f : Addr) (H' : Hp), Same H H' → H' f = some (.lst (ri (psF (strayP (fun j => (l.map (·.2)).getD j 0) ps) l.length))) → Q (.ref f) H'
theorem ok_l_strays (T : All K mg) : FnOk P w K mg base CX0 1 T.f_l_strays T.fd_l_strays ["_law_row", "_law_places"] (sp_l_strays K) := by
  refine T.d_l_strays.fn.ok sc_l_strays (fun vs H Q E h => ?_) (fun cdv A outer s H vs Q E hr h => ?_)
  · obtain ⟨ra, pl, l, ps, rfl, _⟩ := h
    rfl
  · obtain ⟨ra, pl, l, ps, rfl, hl, fl, l6, hp, q⟩ := h
    refine ⟨_, (pss_one (ps_ret (pe_lc (own := [("_law_k", 2), ("_law_one", 3)]) (g := gTup K 2 (gCons (gName 2) (gCons (gName 3) gNil))) (by rfl) sc_l_strays.nd (pi_enumB (K := K) rfl (by rfl) T.b_enumerate (pa_cons (pv 0) pa_nil)) (blkOk_by (own := [("_law_k", 2), ("_law_one", 3)]) (N := ["_law_row", "_law_places", "_law_k", "_law_one"]) (sc := defScope s_l_strays) (by decide +kernel)) (fun _ _ _ _ _ => (pg_tupK (K := K) rfl rfl (pgs_cons (pg_name (i := 2) sc_l_strays.nd rfl (by first | exact Or.inl rfl | exact Or.inr rfl)) (pgs_cons (pg_name (i := 3) sc_l_strays.nd rfl (by first | exact Or.inl rfl | exact Or.inr rfl)) pgs_nil)))) (fun _ _ _ _ _ => (pts_one (PW.pt (pw_and (pt_cmpR (neDK (K := K) rfl hr.units) (pv 3) (pe_tupI (pa_cons pe_int (pa_cons pe_int pa_nil))) (nomark _)) (pw_and1 (pt_cmpR (notInQ (K := K) rfl) (pv 2) (pv 1) (by with_unfolding_all rfl))))))) (fun _ _ _ _ _ => (pv 2))))), ?_⟩
    refine ⟨_, rfl, ra, rz l, false, rfl, hl, fun D hD => ?_⟩
    refine lc_it (walk_enumB (K := K) (a := ra) (xs := rz l) (p := false)) (fun j H' => Same H H' ∧ H' D = some (.lst (ri (psF (strayP (fun j => (l.map (·.2)).getD j 0) ps) j))))
      ⟨same_new hD, upd_same⟩ (fun j H' _ z => Same.tup z.1 hl) ?_ ?_
    · rintro j v H2 H3 hj ⟨s2, hD2⟩ ⟨T0, x0, y0, rfl, hT, rfl, e0, ex⟩
      obtain rfl := Option.some.inj e0
      obtain ⟨z, ez, rfl⟩ := rz_get ex
      have sT : Same H2 (upd H2 T0 (.tup [.int (j : Nat), .ref z.1])) := same_new hT
      have hT3 : (upd H2 T0 (.tup [.int (j : Nat), .ref z.1])) T0 = some (.tup [.int (j : Nat), .ref z.1]) := upd_same
      generalize upd H2 T0 (.tup [.int (j : Nat), .ref z.1]) = H3 at sT hT3
      have s3 := s2.trans sT
      have hD3 := sT _ _ hD2
      have fz := (fl z (List.mem_of_getElem? ez)).same s3
      have vz : (fun j => (l.map (·.2)).getD j 0) j = z.2 := by
        show (l.map (·.2)).getD j 0 = z.2
        rw [List.getD_eq_getElem?_getD, rz_q ez] <;> rfl
      have pl6 := psF_le (strayP (fun j => (l.map (·.2)).getD j 0) ps) j
      rw [rz_len] at hj
      refine ⟨T0, _, rfl, SqT.of hT3, rfl, _, _, rfl, _, _, rfl, rfl, rfl, ?_⟩
      refine ⟨_, rfl, rfl, fun t H5 s5 n5 h5 => ⟨_, _, (fz.same s5).dp, (FrQ.of (q := 0) h5).dp, rfl, rfl, _, rfl, ?_⟩⟩
      rw [eqv_dq z.2 0]
      have hD5 := s5 _ _ hD3
      have s05 := s3.trans s5
      by_cases c : z.2 = 0
      · refine ite_bF (by rw [decide_eq_true c] <;> rfl) (iteF ⟨s05, ?_⟩)
        rw [hD5, psF_step, if_neg]
        unfold strayP
        rw [vz, decide_eq_true c, Bool.not_true, Bool.false_and]
        decide
      · refine ite_bT (by rw [decide_eq_false c] <;> rfl) ?_
        refine ⟨_, rfl, _, rfl, pl, _, rfl, .inl (SqL.of (s05 _ _ hp)), rfl, flat_ri _, _, rfl, ?_⟩
        rw [if_pos rfl, inV_ri]
        by_cases m : j ∈ ps
        · refine ite_bF (by rw [decide_eq_true m] <;> rfl) ⟨s05, ?_⟩
          rw [hD5, psF_step, if_neg]
          unfold strayP
          rw [decide_eq_true m, Bool.not_true, Bool.and_false]
          decide
        · refine ite_bT (by rw [decide_eq_false m] <;> rfl) ?_
          refine ⟨_, rfl, _, hD5, by rw [ri_len]; exact small' (by omega), Same.put s05 hD, ?_⟩
          rw [upd_same, psF_step, if_pos, ri_snoc]
          unfold strayP
          rw [vz, decide_eq_false c, decide_eq_false m] <;> rfl
    · rintro H4 ⟨s4, hD4⟩
      rw [rz_len] at hD4
      exact q D H4 s4 hD4

end
end KR
namespace KR
open PySem PySem.Spec PyProof.Rows L2
section
variable {P : Program} {w : World} {K : PySem.W.Frag} {mg : Str → Option Value} {base : Heap}
def sp_l_lossless (K : PySem.W.Frag) : Sp := fun vs H Q _ => ∃ (kl : Addr) (ks : List Kn), vs = [.ref kl] ∧ H kl = some (.lst (rk ks)) ∧ KnL K H ks.length ks ∧ ks.length ≤ 6 ∧
  ∀ (f : Addr) (P : Nat → Bool) (H' : Hp), Same H H' → H f = none → H' f = some (.lst (ri (psF P ks.length))) → Great (ks.map Kn.q) P → Q (.ref f) H'
theorem ok_l_lossless (T : All K mg) : FnOk P w K mg base CX0 4 T.f_l_lossless T.fd_l_lossless ["_law_kinds_here"] (sp_l_lossless K) := by
  refine T.d_l_lossless.fn.ok sc_l_lossless (fun vs H Q E h => ?_) (fun cdv A outer s H vs Q E hr h => ?_)
  · obtain ⟨kl, ks, rfl, _⟩ := h
    rfl
  · obtain ⟨kl, ks, rfl, hk, L, l6, q⟩ := h
    refine ⟨_, (pss_cons (ps_set (i := 1) sc_l_lossless.nd rfl (by first | exact Or.inl rfl | exact Or.inr rfl) (pe_lstI pa_nil))
      (pss_cons (ps_for PassesOwn.never rfl (pi_range1 (by rfl) T.b_range (pa_cons (pe_op op_oneShl pe_int (pe_callB (lenQ (K := K) rfl) (by rfl) T.b_len PySem.boot_len (pa_cons (pv 0) pa_nil))) pa_nil)) (pg_name (i := 2) sc_l_lossless.nd rfl (by first | exact Or.inl rfl | exact Or.inr rfl)) (pss_cons (ps_set (i := 3) sc_l_lossless.nd rfl (by first | exact Or.inl rfl | exact Or.inr rfl) (pe_lc (own := [("_law_place", 4)]) (g := gName 4) (by rfl) sc_l_lossless.nd (pi_range1 (by rfl) T.b_range (pa_cons (pe_callB (lenQ (K := K) rfl) (by rfl) T.b_len PySem.boot_len (pa_cons (pv 0) pa_nil)) pa_nil)) (blkOk_by (own := [("_law_place", 4)]) (N := ["_law_kinds_here", "_law_best", "_law_bits", "_law_places", "_law_place", "_law_fine"]) (sc := defScope s_l_lossless) (by decide +kernel)) (fun _ _ _ _ _ => (pg_name (i := 4) sc_l_lossless.nd rfl (by first | exact Or.inl rfl | exact Or.inr rfl))) (fun _ _ _ _ _ => (pts_one (pt_cmpR op_eq (pe_op op_odd (pe_op op_shrN (pv 2) (pv 4)) pe_int) pe_int (nomark _)))) (fun _ _ _ _ _ => (pv 4))))
      (pss_cons (ps_set (i := 5) sc_l_lossless.nd rfl (by first | exact Or.inl rfl | exact Or.inr rfl) (pe_callB (allK (K := K) rfl rfl) (by rfl) T.b_all (by decide +kernel) (pa_cons (pe_lc (own := [("_law_place", 4)]) (g := gName 4) (tt := tYes) (by rfl) sc_l_lossless.nd (pi_listK (K := K) rfl (pv 3)) (blkOk_by (own := [("_law_place", 4)]) (N := ["_law_kinds_here", "_law_best", "_law_bits", "_law_places", "_law_place", "_law_fine"]) (sc := defScope s_l_lossless) (by decide +kernel)) (fun _ _ _ _ _ => (pg_name (i := 4) sc_l_lossless.nd rfl (by first | exact Or.inl rfl | exact Or.inr rfl))) (fun _ _ _ _ _ => pts_nil) (fun _ _ _ _ _ => (pe_and (pe_cmpR (eqDK (K := K) rfl hr.units) (pe_ix (ixT (K := K) rfl) (pe_ix (ixL (K := K) rfl) (pv 0) (pv 4) (fun _ _ => rfl)) pe_int (fun _ _ => rfl)) (pe_tupI (pa_cons pe_int (pa_cons pe_int pa_nil))) (nomark _)) (pe_one (pe_cmpR (eqDK (K := K) rfl hr.units) (pe_call (ok_l_all T) hr (by rfl) T.d_l_all.mg T.d_l_all.fn.kp T.d_l_all.b .nil pass0 (pa_cons (pe_ix (ixT (K := K) rfl) (pe_ix (ixL (K := K) rfl) (pv 0) (pv 4) (fun _ _ => rfl)) pe_int (fun _ _ => rfl)) pa_nil)) (pe_tupI (pa_cons pe_int (pa_cons pe_int pa_nil))) (nomark _)))))) pa_nil)))
      (pss_cons (ps_set (i := 5) sc_l_lossless.nd rfl (by first | exact Or.inl rfl | exact Or.inr rfl) (pe_and (pv 5) (pe_one (pe_callB (allK (K := K) rfl rfl) (by rfl) T.b_all (by decide +kernel) (pa_cons (pe_lc (own := [("_law_place", 4)]) (g := gName 4) (tt := tYes) (by rfl) sc_l_lossless.nd (pi_listK (K := K) rfl (pv 3)) (blkOk_by (own := [("_law_place", 4)]) (N := ["_law_kinds_here", "_law_best", "_law_bits", "_law_places", "_law_place", "_law_fine"]) (sc := defScope s_l_lossless) (by decide +kernel)) (fun _ _ _ _ _ => (pg_name (i := 4) sc_l_lossless.nd rfl (by first | exact Or.inl rfl | exact Or.inr rfl))) (fun _ _ _ _ _ => pts_nil) (fun _ _ _ _ _ => (pe_cmpR (eqDK (K := K) rfl hr.units) (pe_call (ok_l_strays T) (hr.mono (by decide)) (by rfl) T.d_l_strays.mg T.d_l_strays.fn.kp T.d_l_strays.b .nil pass0 (pa_cons (pe_ix (ixT (K := K) rfl) (pe_ix (ixL (K := K) rfl) (pv 0) (pv 4) (fun _ _ => rfl)) pe_int (fun _ _ => rfl)) (pa_cons (pv 3) pa_nil))) (pe_lstI pa_nil) (nomark _)))) pa_nil)))))
      (pss_one (ps_if (PW.pt (pw_and (pt_val (pv 5)) (pw_and1 (pt_cmpR op_gt (pe_callB (lenQ (K := K) rfl) (by rfl) T.b_len PySem.boot_len (pa_cons (pv 3) pa_nil)) (pe_callB (lenQ (K := K) rfl) (by rfl) T.b_len PySem.boot_len (pa_cons (pv 1) pa_nil)) (nomark _))))) (pss_one (ps_set (i := 1) sc_l_lossless.nd rfl (by first | exact Or.inl rfl | exact Or.inr rfl) (pv 3))) pss_nil))))))
      (pss_one (ps_ret (pv 1))))), ?_⟩
    have len : (ks.map Kn.q).length = ks.length := List.length_map _
    refine ⟨rfl, fun f0 H1 s1 n1 h1 => ?_⟩
    refine ⟨_, rfl, kl, _, rfl, .inl (SqL.of (s1 _ _ hk)), ks.length, rfl, by rw [rk_len], by omega, _, rfl, ?_⟩
    have e2 : (2 : Int) ^ ks.length = ((2 ^ ks.length : Nat) : Int) := by rw [Int.natCast_pow] <;> rfl
    have p6 : 2 ^ ks.length ≤ 2 ^ 6 := Nat.pow_le_pow_right (by decide) l6
    rw [e2]
    have p7 : ((2 ^ ks.length : Nat) : Int) ≤ 64 := by
      have : 2 ^ ks.length ≤ 64 := p6
      exact Int.ofNat_le.mpr this
    have p8 : (0 : Int) ≤ ((2 ^ ks.length : Nat) : Int) := Int.natCast_nonneg _
    refine ⟨Int.le_trans (by decide) p8, Int.lt_of_le_of_lt p7 (by decide), for_range (lo := 0) (n := 2 ^ ks.length) (fun b σ H' => ∃ (f : Addr) (P : Nat → Bool) (v2 v3 v4 v5 : Option V), σ = [some (.ref kl), some (.ref f), v2, v3, v4, v5] ∧ Same H H' ∧ H f = none ∧ H' f = some (.lst (ri (psF P ks.length))) ∧ Best (ks.map Kn.q) b P)
      ⟨f0, fun _ => false, none, none, none, none, rfl, s1, n1, by rw [h1, psF_nil.mpr fun _ _ => rfl] <;> rfl, Best.zero _⟩ ?_ ?_⟩
    · rintro b σ H2 hi ⟨f, P, v2, v3, v4, v5, rfl, s2, nf, hf, BP⟩
      rw [Int.zero_add]
      have hk2 := s2 _ _ hk
      have L2' := L.same s2
      refine ⟨_, rfl, kl, _, rfl, .inl (SqL.of hk2), _, rfl, ?_⟩
      rw [rk_len]
      refine ⟨by omega, by omega, fun D hD => ?_⟩
      refine lc_range (lo := 0) (n := ks.length) (fun j H' => Same H2 H' ∧ H' D = some (.lst (ri (psF (bitP b) j)))) ⟨same_new hD, upd_same⟩ (fun j H3 hj z => ?_) (fun H3 z => ?_)
      · obtain ⟨s3, hD3⟩ := z
        rw [Int.zero_add]
        have e3 : (b : Int) / 2 ^ j = ((b / 2 ^ j : Nat) : Int) := by rw [Int.natCast_ediv, Int.natCast_pow] <;> rfl
        have pl := psF_le (bitP b) j
        refine ⟨rfl, ?_⟩
        refine ⟨_, rfl, _, rfl, _, _, rfl, rfl, b / 2 ^ j, by rw [e3], rfl, rfl, _, rfl, ?_⟩
        by_cases c : b / 2 ^ j % 2 = 1
        · refine ite_iT (by omega) ?_
          refine ⟨_, rfl, _, hD3, by rw [ri_len]; exact small' (by omega), Same.put s3 hD, ?_⟩
          rw [upd_same, psF_step, if_pos (show bitP b j = true from decide_eq_true c), ri_snoc]
        · refine ite_iF (by omega) ⟨s3, ?_⟩
          rw [hD3, psF_step, if_neg]
          unfold bitP
          rw [decide_eq_false c]
          decide
      · obtain ⟨s3, hD3⟩ := z
        have s03 := s2.trans s3
        have hk3 := s03 _ _ hk
        have L3 := L.same s03
        have nD := same_none s2 hD
        have hf3 := s3 _ _ hf
        have pl := psF_le (bitP b) ks.length
        have pl0 := psF_le P ks.length
        -- what is told of the test in the end
        have fin : ∀ (De : Ends) (_ : ∀ σ H', (∃ (f : Addr) (P : Nat → Bool) (v2 v3 v4 v5 : Option V), σ = [some (.ref kl), some (.ref f), v2, v3, v4, v5] ∧ Same H H' ∧ H f = none ∧ H' f = some (.lst (ri (psF P ks.length))) ∧ Best (ks.map Kn.q) (b + 1) P) → De.nx σ H') (ok : Bool) (H4 : Hp) (v4 : Option V), Same H3 H4 → (ok = true ↔ FinK (ks.map Kn.q) (bitP b)) → tIfS (tAnd (tB (tVar 5)) (tTest (tOp (rI0 fun i j => V.bl (decide (j < i))) (tCB (rLenQ K) (tCons (tVar 3) tNil)) (tCB (rLenQ K) (tCons (tVar 1) tNil))))) (tAsg (tVar 3) (gName 1)) tNext
            De [some (.ref kl), some (.ref f), some (.int (b : Int)), some (.ref D), v4, some (.bl ok)] H4 := by
          intro De nx ok H4 v4 s4 iff
          have hf4 := s4 _ _ hf3
          have hD4 := s4 _ _ hD3
          refine ⟨_, rfl, _, rfl, ?_⟩
          cases ok with
          | false =>
            refine iteF (iteF ?_)
            exact nx _ _ ⟨f, P, _, _, _, _, rfl, s03.trans s4, nf, hf4, BP.keep fun z => Bool.noConfusion (iff.mpr z)⟩
          | true =>
            refine iteT ?_
            refine ⟨_, rfl, D, _, rfl, .inl (SqL.of hD4), _, rfl, f, _, rfl, .inl (SqL.of hf4), _, _, rfl, rfl, _, rfl, ?_⟩
            rw [ri_len, ri_len]
            by_cases c : (psF P ks.length).length < (psF (bitP b) ks.length).length
            · refine ite_bT (decide_eq_true (by omega)) ?_
              exact ⟨_, rfl, nx _ _ ⟨D, bitP b, _, _, _, _, rfl, s03.trans s4, nD, hD4, BP.more (iff.mp rfl) (by rw [len]; exact c)⟩⟩
            · refine ite_bF (decide_eq_false (by omega)) ?_
              exact nx _ _ ⟨f, P, _, _, _, _, rfl, s03.trans s4, nf, hf4, BP.keep fun _ => by rw [len]; omega⟩
        refine ⟨_, rfl, D, rfl, ⟨_, SqL.of hD3⟩, fun D1 hD1 => ?_⟩
        refine lc_it (walk_list (K := K) (a := D) (xs := ri (psF (bitP b) ks.length))) (fun j H' => Same H3 H' ∧ H' D1 = some (.lst ((((psF (bitP b) ks.length).take j).map (fineA (ks.map Kn.q))).map V.bl)))
          ⟨same_new hD1, upd_same⟩ (fun j H' _ z => SqL.of (z.1 _ _ hD3)) ?_ ?_
        · rintro j v H4 H5 hj ⟨s4, hD4⟩ ⟨rfl, hv⟩
          obtain ⟨i, ei, rfl⟩ := ri_get hv
          have il : i < ks.length := (psF_mem.mp (List.mem_of_getElem? ei)).1
          have ek : ks[i]? = some ks[i] := List.getElem?_eq_getElem il
          generalize ks[i] = k at ek
          have KO := (L3 k (List.mem_of_getElem? ek)).same s4
          have hk4 := s4 _ _ hk3
          rw [ri_len] at hj
          have more : ∀ (g : Bool) (H6 : Hp), Same H5 H6 → g = fineA (ks.map Kn.q) i → ∃ acc, H6 D1 = some (.lst acc) ∧ acc.length < sizeLine ∧ Same H3 (upd H6 D1 (.lst (acc ++ [.bl g]))) ∧ upd H6 D1 (.lst (acc ++ [.bl g])) D1 = some (.lst ((((psF (bitP b) ks.length).take (j + 1)).map (fineA (ks.map Kn.q))).map V.bl)) := fun g H6 s6 eg => by
            refine ⟨_, s6 _ _ hD4, by rw [List.length_map, List.length_map, List.length_take]; exact small' (by omega), Same.put (s4.trans s6) hD1, ?_⟩
            rw [upd_same, take_one ei, List.map_append, List.map_append, eg] <;> rfl
          refine ⟨rfl, yesT ?_⟩
          refine ⟨_, rfl, _, rfl, kl, _, (i : Int), _, rfl, rfl, SqL.of hk4, at_of rfl (rk_at ek), k.a, _, 1, _, rfl, rfl, KO.at_, at1, rfl, fun t H6 s6 n6 h6 => ⟨_, _, (KO.dr.same s6).dp, (FrQ.of (q := 1) h6).dp, rfl, rfl, _, rfl, ?_⟩⟩
          rw [eqv_dq k.drip 1]
          by_cases c : k.drip = 1
          · refine ite_bT (decide_eq_true c) ?_
            have KO6 := KO.same s6
            refine ⟨_, rfl, _, rfl, kl, _, (i : Int), _, rfl, rfl, SqL.of (s6 _ _ hk4), at_of rfl (rk_at ek), k.a, _, 2, _, rfl, rfl, KO6.at_, at2, k.g, k.goes, false, rfl, KO6.gs, KO6.go.fl, fun z hz => part_big (KO6.go.pa z hz), parts_add (mem_q KO6.go.pa) (by rw [List.length_map, KO6.go.len]; omega), fun z H7 s7 h7 => ?_⟩
            refine ⟨rfl, fun t' H8 s8 n8 h8 => ⟨_, _, (h7.same s8).dp, (FrQ.of (q := 1) h8).dp, rfl, rfl, ?_⟩⟩
            rw [eqv_dq (zsum (k.goes.map (·.2))) 1]
            refine more _ H8 (s6.trans (s7.trans s8)) ?_
            unfold fineA
            rw [kn_kd ek, show k.q.drip = 1 from c, decide_eq_true rfl, Bool.true_and] <;> rfl
          · refine ite_bF (decide_eq_false c) ?_
            refine more _ H6 s6 ?_
            unfold fineA
            rw [kn_kd ek, decide_eq_false (show ¬ k.q.drip = 1 from c), Bool.false_and]
        · rintro H4 ⟨s4, hD4⟩
          have et : (psF (bitP b) ks.length).take (ri (psF (bitP b) ks.length)).length = psF (bitP b) ks.length := List.take_of_length_le (by rw [ri_len]; exact Nat.le_refl _)
          rw [et] at hD4
          refine ⟨D1, _, rfl, SqL.of hD4, ?_⟩
          rw [all_map]
          have hD34 := s4 _ _ hD3
          refine ⟨_, rfl, _, rfl, ?_⟩
          have iff := fine_iff (ks.map Kn.q) (bitP b)
          rw [len] at iff
          cases cA : (psF (bitP b) ks.length).all (fineA (ks.map Kn.q)) with
          | false =>
            refine iteF ?_
            rw [cA, Bool.false_and] at iff
            exact fin _ (fun _ _ h => h) false H4 _ s4 iff
          | true =>
            refine iteT ?_
            rw [cA, Bool.true_and] at iff
            refine ⟨_, rfl, D, rfl, ⟨_, SqL.of hD34⟩, fun D2 hD2 => ?_⟩
            refine lc_it (walk_list (K := K) (a := D) (xs := ri (psF (bitP b) ks.length))) (fun j H' => Same H4 H' ∧ H' D2 = some (.lst ((((psF (bitP b) ks.length).take j).map (fineB (ks.map Kn.q) (bitP b))).map V.bl)))
              ⟨same_new hD2, upd_same⟩ (fun j H' _ z => SqL.of (z.1 _ _ hD34)) ?_ ?_
            · rintro j v H5 H6 hj ⟨s5, hD5⟩ ⟨rfl, hv⟩
              obtain ⟨i, ei, rfl⟩ := ri_get hv
              have il : i < ks.length := (psF_mem.mp (List.mem_of_getElem? ei)).1
              have ek : ks[i]? = some ks[i] := List.getElem?_eq_getElem il
              generalize ks[i] = k at ek
              have KO := (L3 k (List.mem_of_getElem? ek)).same (s4.trans s5)
              have hk5 := (s4.trans s5) _ _ hk3
              rw [ri_len] at hj
              refine ⟨rfl, yesT ?_⟩
              refine ⟨_, rfl, _, rfl, kl, _, (i : Int), _, rfl, rfl, SqL.of hk5, at_of rfl (rk_at ek), k.a, _, 2, _, rfl, rfl, KO.at_, at2, _, rfl, k.g, D, k.goes, _, rfl, KO.gs, KO.go.fl, by rw [KO.go.len]; exact l6, s5 _ _ hD34, fun g H7 s7 h7 => ?_⟩
              refine ⟨rfl, fun t H8 s8 n8 h8 => ⟨_, _, ri_dp (SqL.of (s8 _ _ h7)), ri_dp (ps := []) (SqL.of h8), dpi_shaped _, dpi_shaped _, ?_⟩⟩
              rw [dpi_eqv]
              have eb : decide (psF (strayP (fun j => (k.goes.map (·.2)).getD j 0) (psF (bitP b) ks.length)) k.goes.length = []) = fineB (ks.map Kn.q) (bitP b) i := by
                unfold fineB
                rw [kn_kd ek, len, KO.go.len] <;> rfl
              rw [eb]
              have s58 := s7.trans s8
              refine ⟨_, s58 _ _ hD5, by rw [List.length_map, List.length_map, List.length_take]; exact small' (by omega), Same.put (s5.trans s58) hD2, ?_⟩
              rw [upd_same, take_one ei, List.map_append, List.map_append] <;> rfl
            · rintro H5 ⟨s5, hD5⟩
              rw [et] at hD5
              refine ⟨D2, _, rfl, SqL.of hD5, ?_⟩
              rw [all_map]
              exact fin _ (fun _ _ h => h) _ H5 _ (s4.trans s5) iff
    · rintro σ H2 ⟨f, P, v2, v3, v4, v5, rfl, s2, nf, hf, BP⟩
      refine ⟨_, rfl, q f P H2 s2 nf hf (Best.great (ks := ks.map Kn.q) ?_)⟩
      rw [len]
      exact BP

end
end KR
namespace KR
open PySem PySem.Spec PyProof.Rows L2
section
variable {P : Program} {w : World} {K : PySem.W.Frag} {mg : Str → Option Value} {base : Heap}
def sp_p_is_number (K : PySem.W.Frag) : Sp := fun vs H Q _ => ∃ (Av : Addr → Prop) (B n : Nat) (v : V) (d : PyData), vs = [v] ∧ Tg K Av H B n v d ∧ Q (.bl (isI d)) H
theorem ok_p_is_number (T : All K mg) : FnOk P w K mg base CX0 1 T.f_p_is_number T.fd_p_is_number ["thing"] (sp_p_is_number K) := by
  refine T.d_p_is_number.fn.ok sc_p_is_number (fun vs H Q E h => ?_) (fun cdv A outer s H vs Q E hr h => ?_)
  · obtain ⟨Av, B, n, v, d, rfl, _⟩ := h
    rfl
  · obtain ⟨Av, B, n, v, d, rfl, h, q⟩ := h
    refine ⟨_, (pss_one (ps_ret (pe_and (pe_callB (isiK (K := K) rfl) (by rfl) T.b_isinstance (by decide +kernel) (pa_cons (pv 0) (pa_cons (pe_bltn (v := .ty "int") (by rfl) T.b_int (by decide +kernel) rfl) pa_nil))) (pe_one (pe_not (pe_callB (isiK (K := K) rfl) (by rfl) T.b_isinstance (by decide +kernel) (pa_cons (pv 0) (pa_cons (pe_bltn (v := .ty "bool") (by rfl) T.b_bool (by decide +kernel) rfl) pa_nil)))))))), ?_⟩
    obtain ⟨t, ty, _, _, ki, kb, _⟩ := h.ty
    cases e : isBo d with
    | true =>
      rw [boI e] at q
      rw [e, Bool.or_true] at ki
      rw [e] at kb
      refine ⟨_, rfl, _, _, _, _, _, rfl, .ty _, ty, kit_ty ki, _, rfl, ?_⟩
      refine iteT ?_
      refine ⟨_, rfl, _, _, _, _, _, rfl, .ty _, ty, kit_ty kb, _, rfl, ?_⟩
      exact q
    | false =>
      rw [e, Bool.or_false] at ki
      rw [e] at kb
      refine ⟨_, rfl, _, _, _, _, _, rfl, .ty _, ty, kit_ty ki, _, rfl, ?_⟩
      cases e2 : isI d with
      | true =>
        rw [e2] at q
        refine iteT ?_
        refine ⟨_, rfl, _, _, _, _, _, rfl, .ty _, ty, kit_ty kb, _, rfl, ?_⟩
        exact q
      | false =>
        rw [e2] at q
        refine iteF ?_
        exact q

end
end KR
namespace KR
open PySem PySem.Spec PyProof.Rows L2
section
variable {P : Program} {w : World} {K : PySem.W.Frag} {mg : Str → Option Value} {base : Heap}
def sp_p_is_number_within (K : PySem.W.Frag) : Sp := fun vs H Q _ => ∃ (Av : Addr → Prop) (B n : Nat) (v : V) (d : PyData) (l m : Int), vs = [v, .int l, .int m] ∧ Tg K Av H B n v d ∧ Q (.bl (numIn l m d)) H
theorem ok_p_is_number_within (T : All K mg) : FnOk P w K mg base CX0 2 T.f_p_is_number_within T.fd_p_is_number_within ["thing", "least", "most"] (sp_p_is_number_within K) := by
  refine T.d_p_is_number_within.fn.ok sc_p_is_number_within (fun vs H Q E h => ?_) (fun cdv A outer s H vs Q E hr h => ?_)
  · obtain ⟨Av, B, n, v, d, l, m, rfl, _⟩ := h
    rfl
  · obtain ⟨Av, B, n, v, d, l, m, rfl, h, q⟩ := h
    refine ⟨_, (pss_one (ps_ret (pe_and (pe_call (ok_p_is_number T) hr (by rfl) T.d_p_is_number.mg T.d_p_is_number.fn.kp T.d_p_is_number.b .nil pass0 (pa_cons (pv 0) pa_nil)) (pe_one (pe_chain op_le op_le (pv 1) (pv 0) (pv 2)))))), ?_⟩
    refine ⟨_, rfl, Av, B, n, v, d, rfl, h, _, rfl, ?_⟩
    cases e : isI d with
    | false =>
      rw [numIn_no e] at q
      exact iteF q
    | true =>
      obtain ⟨i, rfl, rfl, _⟩ := h.intI e
      refine iteT ?_
      refine ⟨_, rfl, _, rfl, _, _, rfl, rfl, _, rfl, ?_⟩
      have q2 : Q (.bl (decide (l ≤ i) && decide (i ≤ m))) H := q
      by_cases c : l ≤ i
      · refine ite_bT (decide_eq_true c) ?_
        refine ⟨_, rfl, _, _, rfl, rfl, ?_⟩
        rw [decide_eq_true c] at q2
        exact q2
      · refine ite_bF (decide_eq_false c) ?_
        rw [decide_eq_false c] at q2
        exact q2

end
end KR
namespace KR
open PySem PySem.Spec PyProof.Rows L2
section
variable {P : Program} {w : World} {K : PySem.W.Frag} {mg : Str → Option Value} {base : Heap}
def sp_p_is_fracT (K : PySem.W.Frag) : Sp := fun vs H Q _ => ∃ (Av : Addr → Prop) (B n : Nat) (v : V) (d : PyData), vs = [v] ∧ Tg K Av H B n v d ∧ Q (.bl (fracD d)) H
theorem ok_p_is_fracT (T : All K mg) : FnOk P w K mg base CX0 2 T.f_p_is_frac T.fd_p_is_frac ["thing"] (sp_p_is_fracT K) := by
  refine T.d_p_is_frac.fn.ok sc_p_is_frac (fun vs H Q E h => ?_) (fun cdv A outer s H vs Q E hr h => ?_)
  · obtain ⟨Av, Bn, n, v, d, rfl, _⟩ := h
    rfl
  · obtain ⟨Av, Bn, n, v, d, rfl, hv, q⟩ := h
    refine ⟨_, (pss_cons (ps_if (PW.pt (pw_or (pt_not (pt_val (pe_callB (isiK (K := K) rfl) (by rfl) T.b_isinstance (by decide +kernel) (pa_cons (pv 0) (pa_cons (pe_bltn (v := .ty "tuple") (by rfl) T.b_tuple (by decide +kernel) rfl) pa_nil))))) (pw_or1 (pt_cmpR op_ne (pe_callB (lenQ (K := K) rfl) (by rfl) T.b_len PySem.boot_len (pa_cons (pv 0) pa_nil)) pe_int (nomark _))))) (pss_one (ps_ret pe_bl)) pss_nil)
      (pss_cons (ps_asg (pv 0) (pg_tupK (K := K) rfl rfl (pgs_cons (pg_name (i := 1) sc_p_is_frac.nd rfl (by first | exact Or.inl rfl | exact Or.inr rfl)) (pgs_cons (pg_name (i := 2) sc_p_is_frac.nd rfl (by first | exact Or.inl rfl | exact Or.inr rfl)) pgs_nil))))
      (pss_cons (ps_if (PW.pt (pw_or (pt_not (pt_val (pe_call (ok_p_is_number T) hr (by rfl) T.d_p_is_number.mg T.d_p_is_number.fn.kp T.d_p_is_number.b .nil pass0 (pa_cons (pv 1) pa_nil)))) (pw_or1 (pt_not (pt_val (pe_call (ok_p_is_number T) hr (by rfl) T.d_p_is_number.mg T.d_p_is_number.fn.kp T.d_p_is_number.b .nil pass0 (pa_cons (pv 2) pa_nil))))))) (pss_one (ps_ret pe_bl)) pss_nil)
      (pss_one (ps_ret (pe_and (pe_cmpR op_gt (pv 2) pe_int (nomark _)) (pe_one (pe_cmpR op_eq (pe_callBfun cr_gcd (by rfl) T.m_gcd (pa_cons (pv 1) (pa_cons (pv 2) pa_nil))) pe_int (nomark _))))))))), ?_⟩
    obtain ⟨ty, hty, _, kty, _, _, _⟩ := hv.ty
    refine ⟨_, rfl, _, _, _, _, _, rfl, .ty _, hty, kit_ty kty, ?_⟩
    cases et : isT d with
    | false =>
      rw [fracD_no et] at q
      exact ⟨_, rfl, iteT q⟩
    | true =>
    obtain ⟨a, xs, ds, m, rfl, rfl, rfl, sq, tg⟩ := hv.tupI et
    refine ⟨_, rfl, iteF ?_⟩
    refine ⟨_, rfl, a, _, rfl, .inr sq, rfl, _, rfl, ?_⟩
    by_cases cl : xs.length = 2
    rotate_left
    · rw [fracD_len (by rw [← tg.1]; exact cl)] at q
      exact ite_nT (by omega) q
    refine ite_nF (by omega) ?_
    obtain ⟨x1, x2, d1, d2, rfl, rfl, t1, t2⟩ := two tg cl
    refine ⟨_, rfl, a, _, rfl, sq, rfl, _, _, rfl, _, _, rfl, rfl, ?_⟩
    refine ⟨_, rfl, Av, Bn, m, x1, d1, rfl, t1, ?_⟩
    cases e1 : isI d1 with
    | false =>
      rw [fracD_i (.inl e1)] at q
      exact ⟨_, rfl, iteT q⟩
    | true =>
    obtain ⟨i, rfl, rfl, _⟩ := t1.intI e1
    refine ⟨_, rfl, iteF ?_⟩
    refine ⟨_, rfl, Av, Bn, m, x2, d2, rfl, t2, ?_⟩
    cases e2 : isI d2 with
    | false =>
      rw [fracD_i (.inr e2)] at q
      exact ⟨_, rfl, iteT q⟩
    | true =>
    obtain ⟨j, rfl, rfl, _⟩ := t2.intI e2
    refine ⟨_, rfl, iteF ?_⟩
    have q : Q (.bl (decide (0 < j) && decide (Nat.gcd i.natAbs j.natAbs = 1))) H := q
    refine ⟨_, rfl, _, _, rfl, rfl, _, rfl, ?_⟩
    by_cases c : 0 < j
    · refine ite_bT (decide_eq_true c) ?_
      refine ⟨_, rfl, _, rfl, _, _, rfl, rfl, ?_⟩
      rw [decide_eq_true c] at q
      have e : decide (V.int ((Nat.gcd i.natAbs j.natAbs : Nat) : Int) = V.int 1) = decide (Nat.gcd i.natAbs j.natAbs = 1) := by
        rw [decide_eq_decide]
        constructor
        · intro z
          injection z with z
          omega
        · intro z
          rw [z] <;> rfl
      rw [e]
      exact q
    · refine ite_bF (decide_eq_false c) ?_
      rw [decide_eq_false c] at q
      exact q
def sp_p_is_frac (K : PySem.W.Frag) : Sp := fun vs H Q _ => ∃ (x : Addr) (a b : Int), vs = [.ref x] ∧ SqT K H x [.int a, .int b] ∧ IsLow a b ∧ Q (.bl true) H
theorem ok_p_is_frac (T : All K mg) : FnOk P w K mg base CX0 2 T.f_p_is_frac T.fd_p_is_frac ["thing"] (sp_p_is_frac K) := (ok_p_is_fracT T).imp fun vs H Q E ⟨x, a, b, e, h, lo, q⟩ => by
  refine ⟨fun _ => False, max a.natAbs b.natAbs, 1, .ref x, .tuple [.int a, .int b], e, (TgAll.cons (.int _ _ (by omega)) (.cons (.int _ _ (by omega)) .nil)).t h, ?_⟩
  have fq : fracD (.tuple [.int a, .int b]) = true := by
    show (decide (0 < b) && decide (Nat.gcd a.natAbs b.natAbs = 1)) = true
    rw [decide_eq_true lo.pos, decide_eq_true lo.cop] <;> rfl
  rw [fq]
  exact q

end
end KR
namespace KR
open PySem PySem.Spec PyProof.Rows L2
section
variable {P : Program} {w : World} {K : PySem.W.Frag} {mg : Str → Option Value} {base : Heap}
theorem fdivs {t b : Int} (hb : b ≠ 0) : (b < 0 → t.fdiv (-((Nat.gcd t.natAbs b.natAbs : Nat) : Int)) = (low t b).1 ∧ b.fdiv (-((Nat.gcd t.natAbs b.natAbs : Nat) : Int)) = (low t b).2) ∧
    (¬ b < 0 → t.fdiv ((Nat.gcd t.natAbs b.natAbs : Nat) : Int) = (low t b).1 ∧ b.fdiv ((Nat.gcd t.natAbs b.natAbs : Nat) : Int) = (low t b).2) := by
  have d1 : ((Nat.gcd t.natAbs b.natAbs : Nat) : Int) ∣ t := Int.ofNat_dvd_left.mpr (Nat.gcd_dvd_left _ _)
  have d2 : ((Nat.gcd t.natAbs b.natAbs : Nat) : Int) ∣ b := Int.ofNat_dvd_left.mpr (Nat.gcd_dvd_right _ _)
  have hg : 0 < Nat.gcd t.natAbs b.natAbs := Nat.gcd_pos_of_pos_right _ (by omega)
  unfold low
  generalize Nat.gcd t.natAbs b.natAbs = g at *
  refine ⟨fun c => ?_, fun c => ?_⟩
  · rw [fdiv_neg d1, fdiv_neg d2, if_pos c]
    refine ⟨rfl, ?_⟩
    have e : (b.natAbs : Int) = -b := by omega
    show b / (g : Int) * -1 = (b.natAbs : Int) / (g : Int)
    rw [e]
    obtain ⟨z, rfl⟩ := d2
    rw [Int.mul_ediv_cancel_left _ (by omega), ← Int.mul_neg, Int.mul_ediv_cancel_left _ (by omega)]
    omega
  · rw [if_neg c, Int.fdiv_eq_ediv_of_nonneg _ (by omega), Int.fdiv_eq_ediv_of_nonneg _ (by omega)]
    have e : (b.natAbs : Int) = b := by omega
    refine ⟨by omega, ?_⟩
    show b / (g : Int) = (b.natAbs : Int) / (g : Int)
    rw [e]
theorem ok0_p_frac_of (T : All K mg) : FnOk P w K mg base CX0 1 T.f_p_frac_of T.fd_p_frac_of ["top", "bottom"] sp_lowV := by
  refine T.d_p_frac_of.fn.ok sc_p_frac_of (fun vs H Q E h => ?_) (fun cdv A outer s H vs Q E hr h => ?_)
  · obtain ⟨t, b, rfl, _⟩ := h
    rfl
  · obtain ⟨t, b, rfl, hb, ht, hb2, q⟩ := h
    refine ⟨_, (pss_cons (ps_set (i := 2) sc_p_frac_of.nd rfl (by first | exact Or.inl rfl | exact Or.inr rfl) (pe_callBfun cr_gcd (by rfl) T.m_gcd (pa_cons (pv 0) (pa_cons (pv 1) pa_nil))))
      (pss_cons (ps_if (pt_cmpR op_lt (pv 1) pe_int (nomark _)) (pss_one (ps_set (i := 2) sc_p_frac_of.nd rfl (by first | exact Or.inl rfl | exact Or.inr rfl) (pe_un un_neg (pv 2)))) pss_nil)
      (pss_one (ps_ret (pe_tupI (pa_cons (pe_op op_fdivX (pv 0) (pv 2)) (pa_cons (pe_op op_fdivX (pv 1) (pv 2)) pa_nil))))))), ?_⟩
    have hg : 0 < Nat.gcd t.natAbs b.natAbs := Nat.gcd_pos_of_pos_right _ (by omega)
    have hg2 : Nat.gcd t.natAbs b.natAbs < 2 ^ 8900 := Nat.lt_of_le_of_lt (Nat.le_of_dvd (by omega) (Nat.gcd_dvd_right _ _)) hb2
    obtain ⟨k1, k2⟩ := fdivs (t := t) hb
    refine ⟨_, rfl, _, rfl, _, _, rfl, ?_⟩
    refine ⟨_, rfl, _, _, rfl, rfl, _, rfl, ite2 (fun c => ?_) (fun c => ?_)⟩
    · have c1 : b < 0 := of_decide_eq_true c
      have hd : ∀ z : Int, DivOk z (-((Nat.gcd t.natAbs b.natAbs : Nat) : Int)) := fun z => divOk (b := 8900) (by omega) (by rw [Int.natAbs_neg, Int.natAbs_natCast]; exact hg2) (by decide) (by decide)
      refine ⟨_, rfl, _, rfl, _, rfl, _, rfl, _, _, rfl, rfl, hd _, _, rfl, _, rfl, _, _, rfl, rfl, hd _, rfl, fun p H1 s1 hp h1 => ?_⟩
      refine q p H1 s1 hp ?_
      rw [← (k1 c1).1, ← (k1 c1).2]
      exact h1
    · have c1 : ¬ b < 0 := of_decide_eq_false (Bool.eq_false_iff.mpr c)
      have hd : ∀ z : Int, DivOk z ((Nat.gcd t.natAbs b.natAbs : Nat) : Int) := fun z => divOk (b := 8900) (by omega) (by rw [Int.natAbs_natCast]; exact hg2) (by decide) (by decide)
      refine ⟨_, rfl, _, rfl, _, _, rfl, rfl, hd _, _, rfl, _, rfl, _, _, rfl, rfl, hd _, rfl, fun p H1 s1 hp h1 => ?_⟩
      refine q p H1 s1 hp ?_
      rw [← (k2 c1).1, ← (k2 c1).2]
      exact h1
theorem ok_p_frac_of (T : All K mg) : FnOk P w K mg base CX0 1 T.f_p_frac_of T.fd_p_frac_of ["top", "bottom"] (sp_lowW K) := (ok0_p_frac_of T).imp fun _ _ _ _ h => lowW h

end
end KR
namespace KR
open PySem PySem.Spec PyProof.Rows L2
section
variable {P : Program} {w : World} {K : PySem.W.Frag} {mg : Str → Option Value} {base : Heap}
theorem ok_p_sum_of (T : All K mg) : FnOk P w K mg base CX0 2 T.f_p_sum_of T.fd_p_sum_of ["one", "other"] (sp_w2 K (fun p q => p + q) (fun _ q => True)) := by
  refine T.d_p_sum_of.fn.ok sc_p_sum_of (fun vs H Q E h => ?_) (fun cdv A outer s H vs Q E hr h => ?_)
  · obtain ⟨x, y, p, q, rfl, _⟩ := h
    rfl
  · obtain ⟨x, y, p, q, rfl, hx, hy, zp, zq, hok, k⟩ := h
    have hx' : SqT K H x [.int p.num, .int (p.den : Int)] := hx
    have hy' : SqT K H y [.int q.num, .int (q.den : Int)] := hy
    refine ⟨_, (pss_one (ps_ret (pe_call (ok_p_frac_of T) hr (by rfl) T.d_p_frac_of.mg T.d_p_frac_of.fn.kp T.d_p_frac_of.b .nil pass0 (pa_cons (pe_op op_add (pe_op op_mulX (pe_ix (ixT (K := K) rfl) (pv 0) pe_int (fun _ _ => rfl)) (pe_ix (ixT (K := K) rfl) (pv 1) pe_int (fun _ _ => rfl))) (pe_op op_mulX (pe_ix (ixT (K := K) rfl) (pv 1) pe_int (fun _ _ => rfl)) (pe_ix (ixT (K := K) rfl) (pv 0) pe_int (fun _ _ => rfl)))) (pa_cons (pe_op op_mulX (pe_ix (ixT (K := K) rfl) (pv 0) pe_int (fun _ _ => rfl)) (pe_ix (ixT (K := K) rfl) (pv 1) pe_int (fun _ _ => rfl))) pa_nil))))), ?_⟩
    obtain ⟨a1, a2⟩ := zp
    obtain ⟨b1, b2⟩ := zq
    have hp := den_ne' p
    have hq := den_ne' q
    refine ⟨_, rfl, x, _, 0, _, rfl, rfl, hx', at0, _, rfl, y, _, 1, _, rfl, rfl, hy', at1, _, _, rfl, rfl, mulZ a1 b2 (by omega), _, rfl, y, _, 0, _, rfl, rfl, hy', at0, _, rfl, x, _, 1, _, rfl, rfl, hx', at1, _, _, rfl, rfl, mulZ b1 a2 (by omega), _, _, rfl, rfl, ?_⟩
    refine ⟨_, rfl, x, _, 1, _, rfl, rfl, hx', at1, _, rfl, y, _, 1, _, rfl, rfl, hy', at1, _, _, rfl, rfl, mulZ a2 b2 (by omega), ?_⟩
    refine ⟨_, _, rfl, Int.mul_ne_zero hp hq, lt_up (add_lt (wide_lt a1 b2) (wide_lt b1 a2)) (by omega), lt_up (wide_lt a2 b2) (by omega), ?_⟩
    intro z H' s1 n1 h1
    rw [rq_add] at h1
    exact k z H' s1 n1 h1

end
end KR
namespace KR
open PySem PySem.Spec PyProof.Rows L2
section
variable {P : Program} {w : World} {K : PySem.W.Frag} {mg : Str → Option Value} {base : Heap}
def sp_p_sum_of_all (K : PySem.W.Frag) : Sp := fun vs H Q _ => ∃ (a : Addr) (l : List Fz) (p : Bool), vs = [.ref a] ∧ SqB K H a (rz l) p ∧ FL K H l ∧ (∀ z ∈ l, Big z.2) ∧ AddOk (l.map (·.2)) ∧ ∀ z H', Same H H' → FrQ K H' z (zsum (l.map (·.2))) → Q (.ref z) H'
theorem ok_p_sum_of_all (T : All K mg) : FnOk P w K mg base CX0 3 T.f_p_sum_of_all T.fd_p_sum_of_all ["ones"] (sp_p_sum_of_all K) := by
  refine T.d_p_sum_of_all.fn.ok sc_p_sum_of_all (fun vs H Q E h => ?_) (fun cdv A outer s H vs Q E hr h => ?_)
  · obtain ⟨a, l, p, rfl, _⟩ := h
    rfl
  · obtain ⟨a, l, p, rfl, ha, hf, big, add, q⟩ := h
    refine ⟨_, (pss_cons (ps_set (i := 1) sc_p_sum_of_all.nd rfl (by first | exact Or.inl rfl | exact Or.inr rfl) (pe_glob (v := .ref T.C_NOUGHT) rfl T.g_NOUGHT rfl))
      (pss_cons (ps_for PassesOwn.never rfl (pi_seqB (K := K) rfl (pv 0)) (pg_name (i := 2) sc_p_sum_of_all.nd rfl (by first | exact Or.inl rfl | exact Or.inr rfl)) (pss_one (ps_set (i := 1) sc_p_sum_of_all.nd rfl (by first | exact Or.inl rfl | exact Or.inr rfl) (pe_call (ok_p_sum_of T) hr (by rfl) T.d_p_sum_of.mg T.d_p_sum_of.fn.kp T.d_p_sum_of.b .nil pass0 (pa_cons (pv 1) (pa_cons (pv 2) pa_nil))))))
      (pss_one (ps_ret (pv 1))))), ?_⟩
    have s1 : Same H H := .refl _
    have h1 : FrQ K H T.C_NOUGHT 0 := T.q_NOUGHT H
    cases p with
    | true => exact ⟨_, rfl, a, rfl, .inl ⟨⟨_, s1.seq ha⟩, all_loop walk_list (fun H' s => s.seq ha) s1 h1 hf big add fun z v H' s hz => ⟨_, rfl, q z H' s hz⟩⟩⟩
    | false => exact ⟨_, rfl, a, rfl, .inr ⟨⟨_, Same.tup s1 ha⟩, all_loop walk_tup (fun H' s => Same.tup s ha) s1 h1 hf big add fun z v H' s hz => ⟨_, rfl, q z H' s hz⟩⟩⟩

end
end KR
namespace KR
open PySem PySem.Spec PyProof.Rows L2
section
variable {P : Program} {w : World} {K : PySem.W.Frag} {mg : Str → Option Value} {base : Heap}
theorem ok_p_difference (T : All K mg) : FnOk P w K mg base CX0 2 T.f_p_difference T.fd_p_difference ["one", "other"] (sp_w2 K (fun p q => p - q) (fun _ q => True)) := by
  refine T.d_p_difference.fn.ok sc_p_difference (fun vs H Q E h => ?_) (fun cdv A outer s H vs Q E hr h => ?_)
  · obtain ⟨x, y, p, q, rfl, _⟩ := h
    rfl
  · obtain ⟨x, y, p, q, rfl, hx, hy, zp, zq, hok, k⟩ := h
    have hx' : SqT K H x [.int p.num, .int (p.den : Int)] := hx
    have hy' : SqT K H y [.int q.num, .int (q.den : Int)] := hy
    refine ⟨_, (pss_one (ps_ret (pe_call (ok_p_frac_of T) hr (by rfl) T.d_p_frac_of.mg T.d_p_frac_of.fn.kp T.d_p_frac_of.b .nil pass0 (pa_cons (pe_op op_sub (pe_op op_mulX (pe_ix (ixT (K := K) rfl) (pv 0) pe_int (fun _ _ => rfl)) (pe_ix (ixT (K := K) rfl) (pv 1) pe_int (fun _ _ => rfl))) (pe_op op_mulX (pe_ix (ixT (K := K) rfl) (pv 1) pe_int (fun _ _ => rfl)) (pe_ix (ixT (K := K) rfl) (pv 0) pe_int (fun _ _ => rfl)))) (pa_cons (pe_op op_mulX (pe_ix (ixT (K := K) rfl) (pv 0) pe_int (fun _ _ => rfl)) (pe_ix (ixT (K := K) rfl) (pv 1) pe_int (fun _ _ => rfl))) pa_nil))))), ?_⟩
    obtain ⟨a1, a2⟩ := zp
    obtain ⟨b1, b2⟩ := zq
    have hp := den_ne' p
    have hq := den_ne' q
    refine ⟨_, rfl, x, _, 0, _, rfl, rfl, hx', at0, _, rfl, y, _, 1, _, rfl, rfl, hy', at1, _, _, rfl, rfl, mulZ a1 b2 (by omega), _, rfl, y, _, 0, _, rfl, rfl, hy', at0, _, rfl, x, _, 1, _, rfl, rfl, hx', at1, _, _, rfl, rfl, mulZ b1 a2 (by omega), _, _, rfl, rfl, ?_⟩
    refine ⟨_, rfl, x, _, 1, _, rfl, rfl, hx', at1, _, rfl, y, _, 1, _, rfl, rfl, hy', at1, _, _, rfl, rfl, mulZ a2 b2 (by omega), ?_⟩
    refine ⟨_, _, rfl, Int.mul_ne_zero hp hq, lt_up (sub_lt (wide_lt a1 b2) (wide_lt b1 a2)) (by omega), lt_up (wide_lt a2 b2) (by omega), ?_⟩
    intro z H' s1 n1 h1
    rw [rq_sub] at h1
    exact k z H' s1 n1 h1

end
end KR
namespace KR
open PySem PySem.Spec PyProof.Rows L2
section
variable {P : Program} {w : World} {K : PySem.W.Frag} {mg : Str → Option Value} {base : Heap}
theorem ok_p_product (T : All K mg) : FnOk P w K mg base CX0 2 T.f_p_product T.fd_p_product ["one", "other"] (sp_w2 K (fun p q => p * q) (fun _ q => True)) := by
  refine T.d_p_product.fn.ok sc_p_product (fun vs H Q E h => ?_) (fun cdv A outer s H vs Q E hr h => ?_)
  · obtain ⟨x, y, p, q, rfl, _⟩ := h
    rfl
  · obtain ⟨x, y, p, q, rfl, hx, hy, zp, zq, hok, k⟩ := h
    have hx' : SqT K H x [.int p.num, .int (p.den : Int)] := hx
    have hy' : SqT K H y [.int q.num, .int (q.den : Int)] := hy
    refine ⟨_, (pss_one (ps_ret (pe_call (ok_p_frac_of T) hr (by rfl) T.d_p_frac_of.mg T.d_p_frac_of.fn.kp T.d_p_frac_of.b .nil pass0 (pa_cons (pe_op op_mulX (pe_ix (ixT (K := K) rfl) (pv 0) pe_int (fun _ _ => rfl)) (pe_ix (ixT (K := K) rfl) (pv 1) pe_int (fun _ _ => rfl))) (pa_cons (pe_op op_mulX (pe_ix (ixT (K := K) rfl) (pv 0) pe_int (fun _ _ => rfl)) (pe_ix (ixT (K := K) rfl) (pv 1) pe_int (fun _ _ => rfl))) pa_nil))))), ?_⟩
    obtain ⟨a1, a2⟩ := zp
    obtain ⟨b1, b2⟩ := zq
    have hp := den_ne' p
    have hq := den_ne' q
    refine ⟨_, rfl, x, _, 0, _, rfl, rfl, hx', at0, _, rfl, y, _, 0, _, rfl, rfl, hy', at0, _, _, rfl, rfl, mulZ a1 b1 (by omega), ?_⟩
    refine ⟨_, rfl, x, _, 1, _, rfl, rfl, hx', at1, _, rfl, y, _, 1, _, rfl, rfl, hy', at1, _, _, rfl, rfl, mulZ a2 b2 (by omega), ?_⟩
    refine ⟨_, _, rfl, Int.mul_ne_zero hp hq, lt_up (wide_lt a1 b1) (by omega), lt_up (wide_lt a2 b2) (by omega), ?_⟩
    intro z H' s1 n1 h1
    rw [rq_mul] at h1
    exact k z H' s1 n1 h1

end
end KR
namespace KR
open PySem PySem.Spec PyProof.Rows L2
section
variable {P : Program} {w : World} {K : PySem.W.Frag} {mg : Str → Option Value} {base : Heap}
theorem ok_p_quotient (T : All K mg) : FnOk P w K mg base CX0 2 T.f_p_quotient T.fd_p_quotient ["one", "other"] (sp_w2 K (fun p q => p / q) (fun _ q => q ≠ 0)) := by
  refine T.d_p_quotient.fn.ok sc_p_quotient (fun vs H Q E h => ?_) (fun cdv A outer s H vs Q E hr h => ?_)
  · obtain ⟨x, y, p, q, rfl, _⟩ := h
    rfl
  · obtain ⟨x, y, p, q, rfl, hx, hy, zp, zq, hok, k⟩ := h
    have hx' : SqT K H x [.int p.num, .int (p.den : Int)] := hx
    have hy' : SqT K H y [.int q.num, .int (q.den : Int)] := hy
    refine ⟨_, (pss_one (ps_ret (pe_call (ok_p_frac_of T) hr (by rfl) T.d_p_frac_of.mg T.d_p_frac_of.fn.kp T.d_p_frac_of.b .nil pass0 (pa_cons (pe_op op_mulX (pe_ix (ixT (K := K) rfl) (pv 0) pe_int (fun _ _ => rfl)) (pe_ix (ixT (K := K) rfl) (pv 1) pe_int (fun _ _ => rfl))) (pa_cons (pe_op op_mulX (pe_ix (ixT (K := K) rfl) (pv 0) pe_int (fun _ _ => rfl)) (pe_ix (ixT (K := K) rfl) (pv 1) pe_int (fun _ _ => rfl))) pa_nil))))), ?_⟩
    obtain ⟨a1, a2⟩ := zp
    obtain ⟨b1, b2⟩ := zq
    have hp := den_ne' p
    have hq := den_ne' q
    refine ⟨_, rfl, x, _, 0, _, rfl, rfl, hx', at0, _, rfl, y, _, 1, _, rfl, rfl, hy', at1, _, _, rfl, rfl, mulZ a1 b2 (by omega), ?_⟩
    refine ⟨_, rfl, x, _, 1, _, rfl, rfl, hx', at1, _, rfl, y, _, 0, _, rfl, rfl, hy', at0, _, _, rfl, rfl, mulZ a2 b1 (by omega), ?_⟩
    refine ⟨_, _, rfl, Int.mul_ne_zero hp (num_ne hok), lt_up (wide_lt a1 b2) (by omega), lt_up (wide_lt a2 b1) (by omega), ?_⟩
    intro z H' s1 n1 h1
    rw [rq_div] at h1
    exact k z H' s1 n1 h1

end
end KR
namespace KR
open PySem PySem.Spec PyProof.Rows L2
section
variable {P : Program} {w : World} {K : PySem.W.Frag} {mg : Str → Option Value} {base : Heap}
theorem ok_p_is_lesser (T : All K mg) : FnOk P w K mg base CX0 3 T.f_p_is_lesser T.fd_p_is_lesser ["one", "other"] (sp_lessW K) := by
  refine T.d_p_is_lesser.fn.ok sc_p_is_lesser (fun vs H Q E h => ?_) (fun cdv A outer s H vs Q E hr h => ?_)
  · obtain ⟨x, y, p, q, rfl, _⟩ := h
    rfl
  · obtain ⟨x, y, p, q, rfl, hx, hy, zp, zq, k⟩ := h
    have hx' : SqT K H x [.int p.num, .int (p.den : Int)] := hx
    have hy' : SqT K H y [.int q.num, .int (q.den : Int)] := hy
    refine ⟨_, (pss_one (ps_ret (pe_and (pe_call (ok_p_is_frac T) hr (by rfl) T.d_p_is_frac.mg T.d_p_is_frac.fn.kp T.d_p_is_frac.b .nil pass0 (pa_cons (pv 1) pa_nil)) (pe_one (pe_cmpR op_lt (pe_op op_mulX (pe_ix (ixT (K := K) rfl) (pv 0) pe_int (fun _ _ => rfl)) (pe_ix (ixT (K := K) rfl) (pv 1) pe_int (fun _ _ => rfl))) (pe_op op_mulX (pe_ix (ixT (K := K) rfl) (pv 1) pe_int (fun _ _ => rfl)) (pe_ix (ixT (K := K) rfl) (pv 0) pe_int (fun _ _ => rfl))) (nomark _)))))), ?_⟩
    refine ⟨_, rfl, y, q.num, (q.den : Int), rfl, hy, rat_low q, true, rfl, ite_bT rfl ?_⟩
    obtain ⟨a1, a2⟩ := zp
    obtain ⟨b1, b2⟩ := zq
    refine ⟨_, rfl, x, _, 0, _, rfl, rfl, hx', at0, _, rfl, y, _, 1, _, rfl, rfl, hy', at1, _, _, rfl, rfl, mulZ a1 b2 (by omega), ?_⟩
    refine ⟨_, rfl, y, _, 0, _, rfl, rfl, hy', at0, _, rfl, x, _, 1, _, rfl, rfl, hx', at1, _, _, rfl, rfl, mulZ b1 a2 (by omega), _, _, rfl, rfl, ?_⟩
    have e : decide (p.num * (q.den : Int) < q.num * (p.den : Int)) = decide (p < q) := by
      rw [decide_eq_decide]
      exact lt_cross p q
    show Q (.bl (decide (p.num * (q.den : Int) < q.num * (p.den : Int)))) H
    rw [e]
    exact k

end
end KR
namespace KR
open PySem PySem.Spec PyProof.Rows L2
section
variable {P : Program} {w : World} {K : PySem.W.Frag} {mg : Str → Option Value} {base : Heap}
theorem Tg.frac {K : PySem.W.Frag} {Av : Addr → Prop} {H : Hp} {B n : Nat} {v : V} {d : PyData} (h : Tg K Av H B n v d) (e : fracD d = true) : ∃ (a : Addr) (i j : Int), v = .ref a ∧ d = .tuple [.int i, .int j] ∧ SqT K H a [.int i, .int j] := by
  have it : isT d = true := by
    cases c : isT d with
    | true => rfl
    | false =>
      rw [fracD_no c] at e
      cases e
  obtain ⟨a, xs, ds, m, rfl, rfl, rfl, sq, tg⟩ := h.tupI it
  have l2 : xs.length = 2 := by
    by_cases c : xs.length = 2
    · exact c
    · rw [fracD_len (by rw [← tg.1]; exact c)] at e
      cases e
  obtain ⟨x1, x2, d1, d2, rfl, rfl, g1, g2⟩ := two tg l2
  have i1 : isI d1 = true := by
    cases c : isI d1 with
    | true => rfl
    | false =>
      rw [fracD_i (.inl c)] at e
      cases e
  have i2 : isI d2 = true := by
    cases c : isI d2 with
    | true => rfl
    | false =>
      rw [fracD_i (.inr c)] at e
      cases e
  obtain ⟨i, rfl, rfl, _⟩ := g1.intI i1
  obtain ⟨j, rfl, rfl, _⟩ := g2.intI i2
  exact ⟨a, i, j, rfl, rfl, sq⟩
def sp_p__is_part (K : PySem.W.Frag) : Sp := fun vs H Q _ => ∃ (Av : Addr → Prop) (B n : Nat) (v : V) (d : PyData), vs = [v] ∧ Tg K Av H B n v d ∧ Q (.bl (partD d)) H
theorem ok_p__is_part (T : All K mg) : FnOk P w K mg base CX0 3 T.f_p__is_part T.fd_p__is_part ["thing"] (sp_p__is_part K) := by
  refine T.d_p__is_part.fn.ok sc_p__is_part (fun vs H Q E h => ?_) (fun cdv A outer s H vs Q E hr h => ?_)
  · obtain ⟨Av, Bn, n, v, d, rfl, _⟩ := h
    rfl
  · obtain ⟨Av, Bn, n, v, d, rfl, hv, q⟩ := h
    refine ⟨_, (pss_one (ps_ret (pe_and (pe_call (ok_p_is_fracT T) hr (by rfl) T.d_p_is_frac.mg T.d_p_is_frac.fn.kp T.d_p_is_frac.b .nil pass0 (pa_cons (pv 0) pa_nil)) (pe_one (pe_chain3 op_le op_le op_le pe_int (pe_ix (ixT (K := K) rfl) (pv 0) pe_int (fun _ _ => rfl)) (pe_ix (ixT (K := K) rfl) (pv 0) pe_int (fun _ _ => rfl)) (pe_glob (v := .int 12) rfl T.c_MOST_BOTTOM ⟨_, rfl⟩)))))), ?_⟩
    have q : Q (.bl (fracD d && rngD d)) H := q
    refine ⟨_, rfl, Av, Bn, n, v, d, rfl, hv, _, rfl, ?_⟩
    cases e : fracD d with
    | false =>
      rw [e] at q
      exact iteF q
    | true =>
      rw [e] at q
      refine iteT ?_
      obtain ⟨a, i, j, rfl, rfl, hm⟩ := hv.frac e
      have q : Q (.bl (decide (0 ≤ i) && (decide (i ≤ j) && decide (j ≤ 12)))) H := q
      refine ⟨_, rfl, a, _, 0, _, rfl, rfl, hm, at0, _, _, rfl, rfl, _, rfl, ?_⟩
      by_cases c : 0 ≤ i
      · refine ite_bT (decide_eq_true c) ?_
        rw [decide_eq_true c] at q
        refine ⟨_, rfl, a, _, 1, _, rfl, rfl, hm, at1, _, _, rfl, rfl, _, rfl, ?_⟩
        by_cases c1 : i ≤ j
        · refine ite_bT (decide_eq_true c1) ?_
          rw [decide_eq_true c1] at q
          exact ⟨_, _, rfl, rfl, q⟩
        · refine ite_bF (decide_eq_false c1) ?_
          rw [decide_eq_false c1] at q
          exact q
      · refine ite_bF (decide_eq_false c) ?_
        rw [decide_eq_false c] at q
        exact q

end
end KR
namespace KR
open PySem PySem.Spec PyProof.Rows L2
section
variable {P : Program} {w : World} {K : PySem.W.Frag} {mg : Str → Option Value} {base : Heap}
def sp_p__are_goes (K : PySem.W.Frag) (P : Addr) : Sp := fun vs H Q _ => ∃ (Av : Addr → Prop) (B n : Nat) (v : V) (d : PyData) (h : Int), vs = [v, .int h] ∧ Tg K Av H B n v d ∧ GxR.TabG H P ∧ h ≤ 7 ∧ ∀ H', Sm H H' → Q (.bl (goesD h d)) H'
theorem ok_p__are_goes (T : All K mg) (B : Tabs T base) : FnOk P w K mg base CX0 5 T.f_p__are_goes T.fd_p__are_goes ["thing", "many"] (sp_p__are_goes K T.P_p__are_goes) := by
  refine T.k_p__are_goes.ok sc_p__are_goes (fun vs H Q E h => ?_) (fun cdv A outer s H vs Q E hc hr h => ?_)
  · obtain ⟨Av, Bn, n, v, d, h, rfl, _⟩ := h
    rfl
  · obtain ⟨Av, Bn, n, v, d, h, rfl, hv, hT, h7, q⟩ := h
    refine ⟨_, (pss_cons (ps_if (PW.pt (pw_or (pt_not (pt_val (pe_callB (isiK (K := K) rfl) (by rfl) T.b_isinstance (by decide +kernel) (pa_cons (pv 0) (pa_cons (pe_bltn (v := .ty "tuple") (by rfl) T.b_tuple (by decide +kernel) rfl) pa_nil))))) (pw_or (pt_cmpR op_ne (pe_callB (lenQ (K := K) rfl) (by rfl) T.b_len PySem.boot_len (pa_cons (pv 0) pa_nil)) (pv 1) (nomark _)) (pw_or1 (pt_not (pt_val (pe_allG hr (by rfl) T.b_all (by decide +kernel) B.t_p__are_goes hc ⟨rfl, rfl, by decide +kernel, by decide +kernel, rfl, rfl⟩ (pi_tupK (K := K) rfl (pv 0)) (fun _ _ _ _ _ _ => (pe_call (ok_p__is_part T) (room_gen hr) (by rfl) T.d_p__is_part.mg T.d_p__is_part.fn.kp T.d_p__is_part.b .nil pass0 (pa_cons (pv 0) pa_nil))) (by intro _; rfl)))))))) (pss_one (ps_ret pe_bl)) pss_nil)
      (pss_one (ps_ret (pe_not (pe_call (ok_p_is_lesser T) (hr.mono (by decide)) (by rfl) T.d_p_is_lesser.mg T.d_p_is_lesser.fn.kp T.d_p_is_lesser.b .nil pass0 (pa_cons (pe_glob (v := .ref T.C_ONE) rfl T.g_ONE rfl) (pa_cons (pe_call (ok_p_sum_of_all T) (hr.mono (by decide)) (by rfl) T.d_p_sum_of_all.mg T.d_p_sum_of_all.fn.kp T.d_p_sum_of_all.b .nil pass0 (pa_cons (pv 0) pa_nil)) pa_nil))))))), ?_⟩
    obtain ⟨ty, hty, _, kty, _, _, _⟩ := hv.ty
    refine ⟨_, rfl, _, _, _, _, _, rfl, .ty _, hty, kit_ty kty, ?_⟩
    cases et : isT d with
    | false =>
      rw [goesD_no et] at q
      exact ⟨_, rfl, iteT (q _ .refl)⟩
    | true =>
    obtain ⟨a, xs, ds, m, rfl, rfl, rfl, sq, tg⟩ := hv.tupI et
    refine ⟨_, rfl, iteF ?_⟩
    refine ⟨_, rfl, a, _, rfl, .inr sq, _, rfl, rfl, _, rfl, ?_⟩
    have q2 : ∀ H', Sm H H' → Q (.bl ((decide ((ds.length : Int) = h) && ds.all partD) && decide (zsum (ds.map ratD) ≤ 1))) H' := q
    by_cases cl : (xs.length : Int) = h
    rotate_left
    · rw [decide_eq_false (show ¬ (ds.length : Int) = h by rw [← tg.1]; exact cl)] at q2
      exact ite_nT cl (q2 _ .refl)
    rw [decide_eq_true (show (ds.length : Int) = h by rw [← tg.1]; exact cl)] at q2
    refine ite_nF cl ?_
    refine ⟨_, rfl, a, rfl, ⟨_, sq⟩, hT, xs.length, fun i H' => Sm H H' ∧ i ≤ xs.length ∧ (ds.take i).all partD = true, fun H2 tb => ⟨Sm.tabbed tb hT, Nat.zero_le _, rfl⟩, fun i H2 ⟨sm, le, al⟩ => ?_⟩
    by_cases c : i = xs.length
    · rw [List.take_of_length_le (by rw [← tg.1]; omega)] at al
      rw [al] at q2
      refine .inl ⟨⟨_, sm.tup sq, by omega⟩, _, rfl, iteF ?_⟩
      obtain ⟨l, rfl, fl, pa, ez⟩ := (tg.sm sm).parts al
      rw [← ez] at q2
      have ll : l.length ≤ 7 := by rw [rz_len] at cl; omega
      have add := parts_add (mem_q pa) (by rw [List.length_map]; exact ll)
      have bz : Big (zsum (l.map (·.2))) := by
        have z := add (l.map (·.2)).length (Nat.le_refl _)
        rw [List.take_length] at z
        exact z
      refine ⟨_, rfl, a, l, false, rfl, sm.tup sq, fl, fun z hz => part_big (pa z hz), add, fun wq H3 s3 hw => ?_⟩
      refine ⟨_, wq, 1, _, rfl, T.q_ONE H3, hw, part_big ⟨by decide, by decide, by decide⟩, bz, _, rfl, ?_⟩
      have e : (!decide ((1 : Rat) < zsum (l.map (·.2)))) = decide (zsum (l.map (·.2)) ≤ 1) := by
        by_cases c1 : (1 : Rat) < zsum (l.map (·.2))
        · rw [decide_eq_true c1, decide_eq_false (Rat.not_le.mpr c1)] <;> rfl
        · rw [decide_eq_false c1, decide_eq_true (Rat.not_lt.mp c1)] <;> rfl
      rw [e]
      exact q2 H3 (sm.trans (.of s3))
    · obtain ⟨x, e, ex, ee, tx⟩ := tg.at_ (i := i) (by omega)
      refine .inr ⟨⟨_, _, sm.tup sq, ex⟩, by omega, fun y H3 ⟨e3, hy⟩ => ?_⟩
      subst e3
      obtain rfl := Option.some.inj ((hy _ (sm.tup sq)).symm.trans ex)
      refine ⟨_, rfl, Av, Bn, m, y, e, rfl, tx.sm sm, ?_⟩
      cases ck : partD e with
      | true => exact ⟨true, rfl, sm, by omega, all_up al ee ck⟩
      | false =>
        rw [all_at ee ck] at q2
        exact ⟨false, rfl, _, rfl, iteT (q2 H3 sm)⟩

end
end KR
namespace KR
open PySem PySem.Spec PyProof.Rows L2
section
variable {P : Program} {w : World} {K : PySem.W.Frag} {mg : Str → Option Value} {base : Heap}
def sp_p__is_kind (K : PySem.W.Frag) (P : Addr) : Sp := fun vs H Q _ => ∃ (Av : Addr → Prop) (B n : Nat) (v : V) (d : PyData) (h : Int), vs = [v, .int h] ∧ Tg K Av H B n v d ∧ GxR.TabG H P ∧ h ≤ 7 ∧ ∀ H', Sm H H' → Q (.bl (kindD h d)) H'
theorem ok_p__is_kind (T : All K mg) (B : Tabs T base) : FnOk P w K mg base CX0 6 T.f_p__is_kind T.fd_p__is_kind ["thing", "many"] (sp_p__is_kind K T.P_p__are_goes) := by
  refine T.d_p__is_kind.fn.ok sc_p__is_kind (fun vs H Q E h => ?_) (fun cdv A outer s H vs Q E hr h => ?_)
  · obtain ⟨Av, Bn, n, v, d, h, rfl, _⟩ := h
    rfl
  · obtain ⟨Av, Bn, n, v, d, h, rfl, hv, hT, h7, q⟩ := h
    refine ⟨_, (pss_cons (ps_if (PW.pt (pw_or (pt_not (pt_val (pe_callB (isiK (K := K) rfl) (by rfl) T.b_isinstance (by decide +kernel) (pa_cons (pv 0) (pa_cons (pe_bltn (v := .ty "tuple") (by rfl) T.b_tuple (by decide +kernel) rfl) pa_nil))))) (pw_or1 (pt_cmpR op_ne (pe_callB (lenQ (K := K) rfl) (by rfl) T.b_len PySem.boot_len (pa_cons (pv 0) pa_nil)) pe_int (nomark _))))) (pss_one (ps_ret pe_bl)) pss_nil)
      (pss_cons (ps_asg (pv 0) (pg_tupK (K := K) rfl rfl (pgs_cons (pg_name (i := 2) sc_p__is_kind.nd rfl (by first | exact Or.inl rfl | exact Or.inr rfl)) (pgs_cons (pg_name (i := 3) sc_p__is_kind.nd rfl (by first | exact Or.inl rfl | exact Or.inr rfl)) (pgs_cons (pg_name (i := 4) sc_p__is_kind.nd rfl (by first | exact Or.inl rfl | exact Or.inr rfl)) pgs_nil)))))
      (pss_one (ps_ret (pe_and (pe_call (ok_p_is_number_within T) (hr.mono (by decide)) (by rfl) T.d_p_is_number_within.mg T.d_p_is_number_within.fn.kp T.d_p_is_number_within.b .nil pass0 (pa_cons (pv 2) (pa_cons pe_int (pa_cons (pe_glob (v := .int 1000000) rfl T.c_MOST_FRESH ⟨_, rfl⟩) pa_nil)))) (pe_and (pe_call (ok_p__is_part T) (hr.mono (by decide)) (by rfl) T.d_p__is_part.mg T.d_p__is_part.fn.kp T.d_p__is_part.b .nil pass0 (pa_cons (pv 3) pa_nil)) (pe_one (pe_call (ok_p__are_goes T B) hr (by rfl) T.d_p__are_goes.mg T.d_p__are_goes.fn.kp T.d_p__are_goes.b .nil pass0 (pa_cons (pv 4) (pa_cons (pv 1) pa_nil)))))))))), ?_⟩
    obtain ⟨ty, hty, _, kty, _, _, _⟩ := hv.ty
    refine ⟨_, rfl, _, _, _, _, _, rfl, .ty _, hty, kit_ty kty, ?_⟩
    cases et : isT d with
    | false =>
      rw [kindD_no et] at q
      exact ⟨_, rfl, iteT (q _ .refl)⟩
    | true =>
    obtain ⟨a, xs, ds, m, rfl, rfl, rfl, sq, tg⟩ := hv.tupI et
    refine ⟨_, rfl, iteF ?_⟩
    refine ⟨_, rfl, a, _, rfl, .inr sq, rfl, _, rfl, ?_⟩
    by_cases cl : xs.length = 3
    rotate_left
    · rw [kindD_len (by rw [← tg.1]; exact cl)] at q
      exact ite_nT (by omega) (q _ .refl)
    refine ite_nF (by omega) ?_
    obtain ⟨x1, x2, x3, d1, d2, d3, rfl, rfl, t1, t2, t3⟩ := threeT tg cl
    refine ⟨_, rfl, a, _, rfl, sq, rfl, _, _, rfl, _, _, rfl, _, _, rfl, rfl, ?_⟩
    refine ⟨_, rfl, Av, Bn, m, x1, d1, 0, 1000000, rfl, t1, _, rfl, ?_⟩
    have q2 : ∀ H', Sm H H' → Q (.bl (numIn 0 1000000 d1 && (partD d2 && goesD h d3))) H' := q
    cases c : numIn 0 1000000 d1 with
    | false =>
      rw [c] at q2
      exact iteF (q2 _ .refl)
    | true =>
      rw [c] at q2
      refine iteT ?_
      refine ⟨_, rfl, Av, Bn, m, x2, d2, rfl, t2, _, rfl, ?_⟩
      cases c2 : partD d2 with
      | false =>
        rw [c2] at q2
        exact iteF (q2 _ .refl)
      | true =>
        rw [c2] at q2
        refine iteT ?_
        exact ⟨_, rfl, _, rfl, Av, Bn, m, x3, d3, h, rfl, t3, hT, h7, q2⟩

end
end KR
namespace KR
open PySem PySem.Spec PyProof.Rows L2
section
variable {P : Program} {w : World} {K : PySem.W.Frag} {mg : Str → Option Value} {base : Heap}
def sp_p_are_kinds (K : PySem.W.Frag) (Ps : List Addr) : Sp := fun vs H Q _ => ∃ (Av : Addr → Prop) (B n : Nat) (v : V) (d : PyData), vs = [v] ∧ TgS K Av H B n v d ∧ Tbs Ps H ∧ ∀ H', Sm H H' → Q (.bl (kindsD d)) H'
theorem ok_p_are_kinds (T : All K mg) (B : Tabs T base) : FnOk P w K mg base CX0 8 T.f_p_are_kinds T.fd_p_are_kinds ["thing"] (sp_p_are_kinds K T.Ps) := by
  refine T.k_p_are_kinds.ok sc_p_are_kinds (fun vs H Q E h => ?_) (fun cdv A outer s H vs Q E hc hr h => ?_)
  · obtain ⟨Av, Bn, n, v, d, rfl, _⟩ := h
    rfl
  · obtain ⟨Av, Bn, n, v, d, rfl, hv, hT, q⟩ := h
    have t1 : GxR.TabG H T.P_p_are_kinds := hT _ (by simp [All.Ps])
    have t2 : GxR.TabG H T.P_p__are_goes := hT _ (by simp [All.Ps])
    refine ⟨_, (pss_cons (ps_if (PW.pt (pw_or (pt_not (pt_val (pe_callB (isiK (K := K) rfl) (by rfl) T.b_isinstance (by decide +kernel) (pa_cons (pv 0) (pa_cons (pe_bltn (v := .ty "list") (by rfl) T.b_list (by decide +kernel) rfl) pa_nil))))) (pw_or1 (pt_not (pt_chain op_le op_le pe_int (pe_callB (lenQ (K := K) rfl) (by rfl) T.b_len PySem.boot_len (pa_cons (pv 0) pa_nil)) (pe_glob (v := .int 6) rfl T.c_MOST_KINDS ⟨_, rfl⟩)))))) (pss_one (ps_ret pe_bl)) pss_nil)
      (pss_one (ps_ret (pe_allF (jy := 0) hr (by rfl) T.b_all (by decide +kernel) B.t_p_are_kinds hc ⟨rfl, rfl, by decide +kernel, by decide +kernel, fun _ => rfl, rfl, rfl, rfl⟩ rfl rfl (pi_listK (K := K) rfl (pv 0)) (fun _ _ _ _ _ _ _ => (pe_call (ok_p__is_kind T B) (room_gen hr) (by rfl) T.d_p__is_kind.mg T.d_p__is_kind.fn.kp T.d_p__is_kind.b .nil pass0 (pa_cons (pv 0) (pa_cons (pe_callB (lenQ (K := K) rfl) (by rfl) T.b_len PySem.boot_len (pa_cons (pv 1) pa_nil)) pa_nil)))) (by intro _; rfl))))), ?_⟩
    obtain ⟨ty, hty, kl, _⟩ := hv.kl
    refine ⟨_, rfl, _, _, _, _, _, rfl, .ty _, hty, kit_ty kl, ?_⟩
    cases el : isL d with
    | false =>
      rw [kindsD_no el] at q
      exact ⟨_, rfl, iteT (q _ .refl)⟩
    | true =>
    obtain ⟨f, ks, dk, m, rfl, rfl, rfl, hf, tg⟩ := (hv.tg (.inl el)).lstI el
    have lk : ks.length = dk.length := tg.1
    refine ⟨_, rfl, iteF ?_⟩
    have q2 : ∀ H', Sm H H' → Q (.bl ((decide (1 ≤ dk.length) && decide (dk.length ≤ 6)) && dk.all (kindD (dk.length : Int)))) H' := q
    refine ⟨_, rfl, f, _, rfl, .inl (SqL.of hf), _, _, rfl, rfl, _, rfl, ?_⟩
    by_cases c1 : 1 ≤ dk.length
    rotate_left
    · rw [decide_eq_false c1] at q2
      exact ite_bF (decide_eq_false (by omega)) ⟨_, rfl, iteT (q2 H .refl)⟩
    rw [decide_eq_true c1] at q2
    refine ite_bT (decide_eq_true (by omega)) ?_
    refine ⟨_, _, rfl, rfl, _, rfl, ?_⟩
    by_cases c6 : dk.length ≤ 6
    rotate_left
    · rw [decide_eq_false c6] at q2
      rw [decide_eq_false (show ¬ ((ks.length : Nat) : Int) ≤ 6 by omega)]
      exact iteT (q2 H .refl)
    rw [decide_eq_true c6] at q2
    rw [decide_eq_true (show ((ks.length : Nat) : Int) ≤ 6 by omega)]
    refine iteF ?_
    have q3 : ∀ H', Sm H H' → Q (.bl (dk.all (kindD (dk.length : Int)))) H' := q2
    refine ⟨_, rfl, f, rfl, ⟨_, SqL.of hf⟩, t1, .ref f, ks.length, fun i H' => Sm H H' ∧ i ≤ ks.length ∧ (dk.take i).all (kindD (dk.length : Int)) = true, rfl, fun H3 tb => ⟨Sm.tabbed tb t1, Nat.zero_le _, rfl⟩, fun i H3 ⟨sm, le, al⟩ => ?_⟩
    by_cases c : i = ks.length
    · rw [List.take_of_length_le (by omega)] at al
      rw [al] at q3
      exact .inl ⟨⟨_, sm.seq (SqL.of hf), by omega⟩, q3 H3 sm⟩
    · obtain ⟨x, e, ex, ee, tx⟩ := tg.at_ (i := i) (by omega)
      refine .inr ⟨⟨_, _, sm.seq (SqL.of hf), ex⟩, by omega, fun y H4 ⟨e3, hy⟩ => ?_⟩
      subst e3
      obtain rfl := Option.some.inj ((hy _ (sm.seq (SqL.of hf))).symm.trans ex)
      refine ⟨_, rfl, _, rfl, f, _, rfl, .inl (sm.seq (SqL.of hf)), ?_⟩
      rw [lk]
      refine ⟨Av, Bn, m, y, e, (dk.length : Int), rfl, tx.sm sm, sm.tab _ t2, by omega, fun H5 s5 => ?_⟩
      cases ck : kindD (dk.length : Int) e with
      | true => exact ⟨true, rfl, sm.trans s5, by omega, all_up al ee ck⟩
      | false =>
        rw [all_at ee ck] at q3
        exact ⟨false, rfl, q3 H5 (sm.trans s5)⟩

end
end KR
namespace KR
open PySem PySem.Spec PyProof.Rows L2
section
variable {P : Program} {w : World} {K : PySem.W.Frag} {mg : Str → Option Value} {base : Heap}
def sp_p__dripped_of (K : PySem.W.Frag) : Sp := fun vs H Q _ => ∃ (kl al : Addr) (ks : List Kn) (am : List Fz) (M B n : Nat) (p p2 : Bool), vs = [.ref kl, .ref al] ∧ SqB K H kl (rk ks) p ∧ SqB K H al (rz am) p2 ∧ KnL K H n ks ∧ FL K H am ∧ am.length = ks.length ∧ ks.length ≤ 6 ∧ AmOk M B (am.map (·.2)) ∧
  ∀ (f : Addr) (l : List Fz) (H' : Hp), Same H H' → H f = none → H' f = some (.lst (rz l)) → FL K H' l → l.map (·.2) = dripsQ (ks.map Kn.q) (am.map (·.2)) → Q (.ref f) H'
theorem ok_p__dripped_of (T : All K mg) : FnOk P w K mg base CX0 3 T.f_p__dripped_of T.fd_p__dripped_of ["kinds", "amounts"] (sp_p__dripped_of K) := by
  refine T.d_p__dripped_of.fn.ok sc_p__dripped_of (fun vs H Q E h => ?_) (fun cdv A outer s H vs Q E hr h => ?_)
  · obtain ⟨kl, al, ks, am, M, B, n, p, p2, rfl, _⟩ := h
    rfl
  · obtain ⟨kl, al, ks, am, M, B, n, p, p2, rfl, hk, ha, L, fa, len, l6, ok, q⟩ := h
    refine ⟨_, (pss_one (ps_ret (pe_lc (own := [("amount", 2), ("_", 3), ("drip", 4), ("_", 3)]) (g := gTup K 2 (gCons (gName 2) (gCons (gTup K 3 (gCons (gName 3) (gCons (gName 4) (gCons (gName 3) gNil)))) gNil))) (tt := tYes) (by rfl) sc_p__dripped_of.nd (pi_zipB (K := K) rfl (by rfl) T.b_zip (pa_cons (pv 1) (pa_cons (pv 0) pa_nil))) (blkOk_by (own := [("amount", 2), ("_", 3), ("drip", 4), ("_", 3)]) (N := ["kinds", "amounts", "amount", "_", "drip"]) (sc := defScope s_p__dripped_of) (by decide +kernel)) (fun _ _ _ _ _ => (pg_tupK (K := K) rfl rfl (pgs_cons (pg_name (i := 2) sc_p__dripped_of.nd rfl (by first | exact Or.inl rfl | exact Or.inr rfl)) (pgs_cons (pg_tupK (K := K) rfl rfl (pgs_cons (pg_name (i := 3) sc_p__dripped_of.nd rfl (by first | exact Or.inl rfl | exact Or.inr rfl)) (pgs_cons (pg_name (i := 4) sc_p__dripped_of.nd rfl (by first | exact Or.inl rfl | exact Or.inr rfl)) (pgs_cons (pg_name (i := 3) sc_p__dripped_of.nd rfl (by first | exact Or.inl rfl | exact Or.inr rfl)) pgs_nil)))) pgs_nil)))) (fun _ _ _ _ _ => pts_nil) (fun _ _ _ _ _ => (pe_call (ok_p_product T) hr (by rfl) T.d_p_product.mg T.d_p_product.fn.kp T.d_p_product.b .nil pass0 (pa_cons (pv 2) (pa_cons (pv 4) pa_nil))))))), ?_⟩
    have lq : (am.map (·.2)).length = (ks.map Kn.q).length := by rw [List.length_map, List.length_map, len]
    refine ⟨_, rfl, _, rfl, al, kl, rz am, rk ks, p2, p, rfl, ha, hk, fun D hD => ?_⟩
    refine lc_it (walk_zipB (K := K) (a := al) (b := kl) (xs := rz am) (ys := rk ks) (p := p2) (q := p) (n := ks.length) ((rz_len am).trans len) (rk_len ks)) (fun j H' => ∃ m : List Fz, Same H H' ∧ H' D = some (.lst (rz m)) ∧ FL K H' m ∧ m.map (·.2) = (dripsQ (ks.map Kn.q) (am.map (·.2))).take j)
      ⟨[], same_new hD, upd_same, .nil, rfl⟩ (fun j H' _ ⟨m, s, _⟩ => ⟨ha.same s, hk.same s⟩) ?_ ?_
    · rintro j v H4 H5 hj ⟨m, s4, hD4, fm, em⟩ ⟨U, x1, y1, rfl, hU, rfl, gx, gy⟩
      obtain ⟨za, ea, rfl⟩ := rz_get gx
      obtain ⟨kj, ekj, rfl⟩ := rk_get gy
      have sU : Same H4 (upd H4 U (.tup [.ref za.1, .ref kj.a])) := same_new hU
      have hU5 : (upd H4 U (.tup [.ref za.1, .ref kj.a])) U = some (.tup [.ref za.1, .ref kj.a]) := upd_same
      generalize upd H4 U (.tup [.ref za.1, .ref kj.a]) = H5 at sU hU5
      have s5 := s4.trans sU
      have mk := List.mem_of_getElem? ekj
      have ma := List.mem_of_getElem? ea
      have mq : za.2 ∈ am.map (·.2) := List.mem_map.mpr ⟨za, ma, rfl⟩
      have KO := (L kj mk).same s5
      have fz := (fa za ma).same s5
      refine ⟨U, _, rfl, SqT.of hU5, rfl, _, _, rfl, _, _, rfl, kj.a, _, rfl, KO.at_, rfl, _, _, rfl, _, _, rfl, _, _, rfl, rfl, rfl, rfl, yesT ?_⟩
      refine ⟨_, rfl, _, rfl, za.1, kj.d, za.2, kj.drip, rfl, fz, KO.dr, ok.one mq, part_big KO.pd, trivial, fun z2 H7 s7 n7 h7 => ?_⟩
      have s47 := sU.trans s7
      have hD7 := s47 _ _ hD4
      have ml : m.length ≤ 6 := by
        have e := congrArg List.length em
        rw [List.length_map, List.length_take, drips_len lq, List.length_map] at e
        omega
      refine ⟨_, hD7, by rw [rz_len]; exact small' (by omega), m ++ [(z2, za.2 * kj.drip)], Same.put (s4.trans s47) hD, by rw [upd_same, rz_snoc], FL.put (FL.snoc (fm.same s47) h7) hD7, ?_⟩
      have cg := drips_get (ks := ks.map Kn.q) (rz_q ea) (by rw [List.getElem?_map, ekj] <;> rfl)
      rw [List.map_append, em, take_one cg] <;> rfl
    · rintro H4 ⟨m, s4, hD4, fm, em⟩
      refine q D m H4 s4 hD hD4 fm ?_
      rw [em, ← List.length_map (as := ks) Kn.q, ← drips_len lq, List.take_length]

end
end KR
namespace KR
open PySem PySem.Spec PyProof.Rows L2
section
variable {P : Program} {w : World} {K : PySem.W.Frag} {mg : Str → Option Value} {base : Heap}
def sp_p_walked_once (K : PySem.W.Frag) : Sp := fun vs H Q _ => ∃ (kl al : Addr) (ks : List Kn) (am : List Fz) (M B : Nat) (p p2 : Bool), vs = [.ref kl, .ref al] ∧ SqB K H kl (rk ks) p ∧ SqB K H al (rz am) p2 ∧ KnL K H ks.length ks ∧ FL K H am ∧ am.length = ks.length ∧ ks.length ≤ 6 ∧ AmOk M B (am.map (·.2)) ∧
  ∀ (f : Addr) (l : List Fz) (H' : Hp), Same H H' → H f = none → H' f = some (.lst (rz l)) → FL K H' l → l.map (·.2) = onceQ (ks.map Kn.q) (am.map (·.2)) → Q (.ref f) H'
theorem ok_p_walked_once (T : All K mg) : FnOk P w K mg base CX0 4 T.f_p_walked_once T.fd_p_walked_once ["kinds", "amounts"] (sp_p_walked_once K) := by
  refine T.d_p_walked_once.fn.ok sc_p_walked_once (fun vs H Q E h => ?_) (fun cdv A outer s H vs Q E hr h => ?_)
  · obtain ⟨kl, al, ks, am, M, B, p, p2, rfl, _⟩ := h
    rfl
  · obtain ⟨kl, al, ks, am, M, B, p, p2, rfl, hk, ha, L, fa, len, l6, ok, q⟩ := h
    refine ⟨_, (pss_cons (ps_set (i := 2) sc_p_walked_once.nd rfl (by first | exact Or.inl rfl | exact Or.inr rfl) (pe_call (ok_p__dripped_of T) hr (by rfl) T.d_p__dripped_of.mg T.d_p__dripped_of.fn.kp T.d_p__dripped_of.b .nil pass0 (pa_cons (pv 0) (pa_cons (pv 1) pa_nil))))
      (pss_cons (ps_set (i := 3) sc_p_walked_once.nd rfl (by first | exact Or.inl rfl | exact Or.inr rfl) (pe_lstI pa_nil))
      (pss_cons (ps_for PassesOwn.never rfl (pi_enumB (K := K) rfl (by rfl) T.b_enumerate (pa_cons (pv 0) pa_nil)) (pg_tupK (K := K) rfl rfl (pgs_cons (pg_name (i := 4) sc_p_walked_once.nd rfl (by first | exact Or.inl rfl | exact Or.inr rfl)) (pgs_cons (pg_tupK (K := K) rfl rfl (pgs_cons (pg_name (i := 5) sc_p_walked_once.nd rfl (by first | exact Or.inl rfl | exact Or.inr rfl)) (pgs_cons (pg_name (i := 6) sc_p_walked_once.nd rfl (by first | exact Or.inl rfl | exact Or.inr rfl)) (pgs_cons (pg_name (i := 6) sc_p_walked_once.nd rfl (by first | exact Or.inl rfl | exact Or.inr rfl)) pgs_nil)))) pgs_nil))) (pss_cons (ps_setLc (i := 7) (own := [("drips", 8), ("_", 6), ("_", 6), ("goes", 9)]) (g := gTup K 2 (gCons (gName 8) (gCons (gTup K 3 (gCons (gName 6) (gCons (gName 6) (gCons (gName 9) gNil)))) gNil))) (tt := tYes) (by rfl) sc_p_walked_once.nd rfl rfl (sw_true rfl rfl rfl (by decide +kernel)) (pi_zipB (K := K) rfl (by rfl) T.b_zip (pa_cons (pv 2) (pa_cons (pv 0) pa_nil))) (blkOk_by (own := [("drips", 8), ("_", 6), ("_", 6), ("goes", 9)]) (N := ["kinds", "amounts", "dripped", "later", "place", "fresh", "_", "come", "drips", "goes"]) (sc := defScope s_p_walked_once) (by decide +kernel)) (fun _ _ _ _ _ => (pg_tupK (K := K) rfl rfl (pgs_cons (pg_name (i := 8) sc_p_walked_once.nd rfl (by first | exact Or.inl rfl | exact Or.inr rfl)) (pgs_cons (pg_tupK (K := K) rfl rfl (pgs_cons (pg_name (i := 6) sc_p_walked_once.nd rfl (by first | exact Or.inl rfl | exact Or.inr rfl)) (pgs_cons (pg_name (i := 6) sc_p_walked_once.nd rfl (by first | exact Or.inl rfl | exact Or.inr rfl)) (pgs_cons (pg_name (i := 9) sc_p_walked_once.nd rfl (by first | exact Or.inl rfl | exact Or.inr rfl)) pgs_nil)))) pgs_nil)))) (fun _ _ _ _ _ => pts_nil) (fun _ _ _ _ _ => (pe_call (ok_p_product T) (hr.mono (by decide)) (by rfl) T.d_p_product.mg T.d_p_product.fn.kp T.d_p_product.b .nil pass0 (pa_cons (pv 8) (pa_cons (pe_ix (ixT (K := K) rfl) (pv 9) (pv 4) (fun _ _ => rfl)) pa_nil)))))
      (pss_one (ps_expr (pe_bm PySem.F.plainAttrs_list PySem.F.slot_list_append PySem.F.type_list_append mt_append (pv 3) (pa_cons (pe_call (ok_p_sum_of T) (hr.mono (by decide)) (by rfl) T.d_p_sum_of.mg T.d_p_sum_of.fn.kp T.d_p_sum_of.b .nil pass0 (pa_cons (pe_tupI (pa_cons (pv 5) (pa_cons pe_int pa_nil))) (pa_cons (pe_call (ok_p_sum_of_all T) hr (by rfl) T.d_p_sum_of_all.mg T.d_p_sum_of_all.fn.kp T.d_p_sum_of_all.b .nil pass0 (pa_cons (pv 7) pa_nil)) pa_nil))) pa_nil))))))
      (pss_one (ps_ret (pv 3)))))), ?_⟩
    have kq := kq_mem L
    have lq : (am.map (·.2)).length = (ks.map Kn.q).length := by rw [List.length_map, List.length_map, len]
    have k6 : (ks.map Kn.q).length ≤ 6 := by rw [List.length_map]; exact l6
    refine ⟨_, rfl, _, rfl, kl, al, ks, am, M, B, ks.length, p, p2, rfl, hk, ha, L, fa, len, l6, ok, fun dl dr H0 s0 n0 h0 fd ed => ?_⟩
    have dlen : dr.length = ks.length := by
      have e := congrArg List.length ed
      rw [List.length_map, drips_len lq, List.length_map] at e
      exact e
    refine ⟨rfl, fun f H1 s1' n1' h1 => ?_⟩
    have s1 := s0.trans s1'
    have n1 : H f = none := by
      cases e : H f with
      | none => rfl
      | some o =>
        have k := s0 _ _ e
        rw [n1'] at k
        cases k
    have hd1 := s1' _ _ h0
    have fd1 := fd.same s1'
    refine ⟨_, rfl, kl, rk ks, p, rfl, hk.same s1, for_it (walk_enumB (K := K) (a := kl) (xs := rk ks) (p := p)) (fun i σ H' => ∃ (l : List Fz) (v4 v5 v6 v7 v8 v9 : Option V), σ = [some (.ref kl), some (.ref al), some (.ref dl), some (.ref f), v4, v5, v6, v7, v8, v9] ∧ Same H H' ∧ H' dl = some (.lst (rz dr)) ∧ FL K H' dr ∧ H' f = some (.lst (rz l)) ∧ FL K H' l ∧ l.map (·.2) = (onceQ (ks.map Kn.q) (am.map (·.2))).take i)
      ⟨[], none, none, none, none, none, none, rfl, s1, hd1, fd1, h1, .nil, rfl⟩ (fun i σ H' _ ⟨_, _, _, _, _, _, _, _, s, _⟩ => hk.same s) ?_ ?_⟩
    · rintro i x σ H2 H3 hi ⟨l, v4, v5, v6, v7, v8, v9, rfl, s2, hd2, fd2, hf, fl, el⟩ ⟨T0, x0, y0, rfl, hT, rfl, e0, ex⟩
      obtain rfl := Option.some.inj e0
      obtain ⟨k, ek, rfl⟩ := rk_get ex
      have il : i < ks.length := (List.getElem?_eq_some_iff.mp ek).1
      have sT : Same H2 (upd H2 T0 (.tup [.int (i : Nat), .ref k.a])) := same_new hT
      have hT3 : (upd H2 T0 (.tup [.int (i : Nat), .ref k.a])) T0 = some (.tup [.int (i : Nat), .ref k.a]) := upd_same
      generalize upd H2 T0 (.tup [.int (i : Nat), .ref k.a]) = H3 at sT hT3
      have s3 := s2.trans sT
      have KO3 := (L k (List.mem_of_getElem? ek)).same s3
      refine ⟨T0, _, rfl, SqT.of hT3, rfl, _, _, rfl, _, _, rfl, k.a, _, rfl, KO3.at_, rfl, _, _, rfl, _, _, rfl, _, _, rfl, rfl, rfl, ?_⟩
      have hd3 := sT _ _ hd2
      have fd3 := fd2.same sT
      refine ⟨_, rfl, _, rfl, dl, kl, rz dr, rk ks, true, p, rfl, SqL.of hd3, hk.same s3, fun D hD => ?_⟩
      refine lc_it (walk_zipB (K := K) (a := dl) (b := kl) (xs := rz dr) (ys := rk ks) (p := true) (q := p) (n := ks.length) ((rz_len dr).trans dlen) (rk_len ks)) (fun j H' => ∃ m : List Fz, Same H3 H' ∧ H' D = some (.lst (rz m)) ∧ FL K H' m ∧ m.map (·.2) = (comes (ks.map Kn.q) (am.map (·.2)) i).take j)
        ⟨[], same_new hD, upd_same, .nil, rfl⟩ (fun j H' _ ⟨m, s, _⟩ => ⟨SqL.of (s _ _ hd3), hk.same (s3.trans s)⟩) ?_ ?_
      · rintro j v H4 H5 hj ⟨m, s4, hD4, fm, em⟩ ⟨U, x1, y1, rfl, hU, rfl, gx, gy⟩
        obtain ⟨zd, ezd, rfl⟩ := rz_get gx
        obtain ⟨kj, ekj, rfl⟩ := rk_get gy
        have sU : Same H4 (upd H4 U (.tup [.ref zd.1, .ref kj.a])) := same_new hU
        have hU5 : (upd H4 U (.tup [.ref zd.1, .ref kj.a])) U = some (.tup [.ref zd.1, .ref kj.a]) := upd_same
        generalize upd H4 U (.tup [.ref zd.1, .ref kj.a]) = H5 at sU hU5
        have s45 := s4.trans sU
        have s5 := s3.trans s45
        have mk := List.mem_of_getElem? ekj
        have ja : j < am.length := by rw [len]; exact hj
        have ea : am[j]? = some am[j] := List.getElem?_eq_getElem ja
        generalize am[j] = za at ea
        have ma := List.mem_of_getElem? ea
        have mq : za.2 ∈ am.map (·.2) := List.mem_map.mpr ⟨za, ma, rfl⟩
        have KO := (L kj mk).same s5
        have fz := (fd3 zd (List.mem_of_getElem? ezd)).same s45
        have ezq : zd.2 = za.2 * kj.drip := by
          have k1 := rz_q ezd
          rw [ed, drips_get (ks := ks.map Kn.q) (rz_q ea) (by rw [List.getElem?_map, ekj] <;> rfl)] at k1
          exact (Option.some.inj k1).symm
        rw [ezq] at fz
        have gi : i < kj.goes.length := by rw [(L kj mk).go.len]; exact il
        have gg : kj.goes[i]? = some kj.goes[i] := List.getElem?_eq_getElem gi
        generalize kj.goes[i] = zg at gg
        have mg' := List.mem_of_getElem? gg
        have gx2 : (rz kj.goes)[i]? = some (.ref zg.1) := by
          unfold rz
          rw [List.getElem?_map, gg] <;> rfl
        have pz := KO.go.pa zg mg'
        refine ⟨U, _, rfl, SqT.of hU5, rfl, _, _, rfl, _, _, rfl, kj.a, _, rfl, KO.at_, rfl, _, _, rfl, _, _, rfl, _, _, rfl, rfl, rfl, rfl, yesT ?_⟩
        refine ⟨_, rfl, _, rfl, _, rfl, kj.g, _, (i : Int), _, rfl, rfl, KO.gs, at_of rfl gx2, zd.1, zg.1, _, zg.2, rfl, fz, KO.go.fl zg mg', ok.drips_big mq KO.pd, part_big pz, trivial, fun z2 H7 s7 n7 h7 => ?_⟩
        have s47 := sU.trans s7
        have hD7 := s47 _ _ hD4
        have ml : m.length ≤ 6 := by
          have e := congrArg List.length em
          rw [List.length_map, List.length_take, comes_len lq, List.length_map] at e
          omega
        refine ⟨_, hD7, by rw [rz_len]; exact small' (by omega), m ++ [(z2, za.2 * kj.drip * zg.2)], Same.put (s4.trans s47) hD, by rw [upd_same, rz_snoc], FL.put (FL.snoc (fm.same s47) h7) hD7, ?_⟩
        have cg := comes_get (ks := ks.map Kn.q) (p := i) (rz_q ea) (by rw [List.getElem?_map, ekj] <;> rfl)
        rw [getD_goes gg] at cg
        rw [List.map_append, em, take_one cg] <;> rfl
      · rintro H4 ⟨m, s4, hD4, fm, em⟩
        have em' : m.map (·.2) = comes (ks.map Kn.q) (am.map (·.2)) i := by
          rw [em, ← List.length_map (as := ks) Kn.q, ← comes_len (p := i) lq, List.take_length]
        have s4' := s3.trans s4
        have hf4 := s4 _ _ (sT _ _ hf)
        refine ⟨_, rfl, .inl ⟨rfl, _, SqL.of hf4⟩, _, rfl, rfl, fun u H5 s5 n5 h5 => ?_⟩
        have bigm : ∀ z ∈ m, Big z.2 := fun z hz => by
          have mm : z.2 ∈ m.map (·.2) := List.mem_map.mpr ⟨z, hz, rfl⟩
          rw [em'] at mm
          obtain ⟨c1, c2, c3⟩ := ok.all kq i _ mm
          exact ok.big c1 (Nat.dvd_refl _) c2 (AmOk.up (a := ok) c3)
        refine ⟨_, rfl, D, m, true, rfl, SqL.of (s5 _ _ hD4), fm.same s5, bigm, by rw [em']; exact ok.add kq k6 lq i, fun z H6 s6 hz => ?_⟩
        rw [em'] at hz
        refine ⟨u, z, (k.fresh : Rat), _, rfl, FrQ.int (s6 _ _ h5), hz, fresh_big KO3.f0 KO3.f1, ok.sum_big kq k6 lq i, trivial, fun r H7 s7 n7 h7 => ?_⟩
        have s47 := s5.trans (s6.trans s7)
        have sA := sT.trans (s4.trans s47)
        have hf7 := s47 _ _ hf4
        have hd7 := sA _ _ hd2
        have ll : l.length ≤ 6 := by
          have e := congrArg List.length el
          rw [List.length_map, List.length_take, once_len, List.length_map] at e
          omega
        have dne : dl ≠ f := fun z => by
          rw [z, n1'] at h0
          cases h0
        refine ⟨f, _, _, rfl, rfl, hf7, by rw [rz_len]; exact small' (by omega), ?_⟩
        refine ⟨l ++ [(r, (k.fresh : Rat) + zsum (comes (ks.map Kn.q) (am.map (·.2)) i))], _, _, _, _, _, _, rfl, Same.put (s4'.trans s47) n1, by rw [upd_ne dne]; exact hd7, FL.put (fd2.same sA) hf7, by rw [upd_same, rz_snoc], FL.put (FL.snoc (fl.same sA) h7) hf7, ?_⟩
        have og := once_get (ks := ks.map Kn.q) (qs := am.map (·.2)) (i := i) (by rw [List.length_map]; exact il)
        have eo : onceAt (ks.map Kn.q) (am.map (·.2)) i = (k.fresh : Rat) + zsum (comes (ks.map Kn.q) (am.map (·.2)) i) := by
          unfold onceAt
          rw [getD_fresh ek]
        rw [eo] at og
        rw [List.map_append, el, take_one og] <;> rfl
    · rintro σ H2 ⟨l, v4, v5, v6, v7, v8, v9, rfl, s2, _, _, hf, fl, el⟩
      refine ⟨_, rfl, q f l H2 s2 n1 hf fl ?_⟩
      rw [el, rk_len, ← List.length_map (as := ks) Kn.q, ← once_len (ks.map Kn.q) (am.map (·.2)), List.take_length]

end
end KR
namespace KR
open PySem PySem.Spec PyProof.Rows L2
section
variable {P : Program} {w : World} {K : PySem.W.Frag} {mg : Str → Option Value} {base : Heap}
def sp_p_walked_on (K : PySem.W.Frag) : Sp := fun vs H Q _ => ∃ (kl al : Addr) (ks : List Kn) (am : List Fz) (n : Nat) (p p2 : Bool), vs = [.ref kl, .ref al, .int (n : Int)] ∧ n ≤ 1000 ∧ SqB K H kl (rk ks) p ∧ SqB K H al (rz am) p2 ∧ KnL K H ks.length ks ∧ FL K H am ∧ am.length = ks.length ∧ ks.length ≤ 6 ∧
  (∀ r, r < n → ∃ M B, AmOk M B (roundsQ (ks.map Kn.q) r (am.map (·.2)))) ∧
  ∀ (f : Addr) (l : List Fz) (H' : Hp), Same H H' → H f = none → H' f = some (.lst (rz l)) → FL K H' l → l.map (·.2) = roundsQ (ks.map Kn.q) n (am.map (·.2)) → Q (.ref f) H'
theorem ok_p_walked_on (T : All K mg) : FnOk P w K mg base CX0 5 T.f_p_walked_on T.fd_p_walked_on ["kinds", "amounts", "many"] (sp_p_walked_on K) := by
  refine T.d_p_walked_on.fn.ok sc_p_walked_on (fun vs H Q E h => ?_) (fun cdv A outer s H vs Q E hr h => ?_)
  · obtain ⟨kl, al, ks, am, n, p, p2, rfl, _⟩ := h
    rfl
  · obtain ⟨kl, al, ks, am, n, p, p2, rfl, n9, hk, ha, L, fa, len, l6, ok, q⟩ := h
    refine ⟨_, (pss_cons (ps_set (i := 3) sc_p_walked_on.nd rfl (by first | exact Or.inl rfl | exact Or.inr rfl) (pe_callTy (listI (K := K) rfl) (by rfl) T.b_list (by decide +kernel) (pa_cons (pv 1) pa_nil)))
      (pss_cons (ps_for PassesOwn.never rfl (pi_range1 (by rfl) T.b_range (pa_cons (pv 2) pa_nil)) (pg_name (i := 4) sc_p_walked_on.nd rfl (by first | exact Or.inl rfl | exact Or.inr rfl)) (pss_one (ps_set (i := 3) sc_p_walked_on.nd rfl (by first | exact Or.inl rfl | exact Or.inr rfl) (pe_call (ok_p_walked_once T) hr (by rfl) T.d_p_walked_once.mg T.d_p_walked_once.fn.kp T.d_p_walked_once.b .nil pass0 (pa_cons (pv 0) (pa_cons (pv 3) pa_nil))))))
      (pss_one (ps_ret (pv 3))))), ?_⟩
    have lq : (am.map (·.2)).length = (ks.map Kn.q).length := by rw [List.length_map, List.length_map, len]
    have sq : SqL K H al (rz am) ∨ SqT K H al (rz am) := by
      cases p2 with
      | true => exact .inl ha
      | false => exact .inr ha
    refine ⟨_, rfl, al, _, rfl, sq, fun f H1 s1 n1 h1 => ?_⟩
    refine ⟨_, rfl, n, rfl, by omega, by omega, for_range (lo := 0) (n := n) (fun i σ H' => ∃ (f : Addr) (l : List Fz) (v4 : Option V), σ = [some (.ref kl), some (.ref al), some (.int (n : Int)), some (.ref f), v4] ∧ Same H H' ∧ H f = none ∧ H' f = some (.lst (rz l)) ∧ FL K H' l ∧ l.map (·.2) = roundsQ (ks.map Kn.q) i (am.map (·.2)))
      ⟨f, am, none, rfl, s1, n1, h1, fa.same s1, rfl⟩ ?_ ?_⟩
    · rintro i σ H2 hi ⟨f, l, v4, rfl, s2, nf, hf, fl, el⟩
      obtain ⟨M, B, ai⟩ := ok i hi
      have ll : l.length = ks.length := by
        have e := congrArg List.length el
        rw [List.length_map, rounds_len lq, List.length_map] at e
        exact e
      refine ⟨_, rfl, _, rfl, kl, f, ks, l, M, B, p, true, rfl, hk.same s2, SqL.of hf, L.same s2, fl, ll, l6, by rw [el]; exact ai, fun g m H3 s3 n3 h3 fm em => ?_⟩
      refine ⟨g, m, _, rfl, s2.trans s3, same_none s2 n3, h3, fm, ?_⟩
      rw [em, el] <;> rfl
    · rintro σ H2 ⟨f, l, v4, rfl, s2, nf, hf, fl, el⟩
      exact ⟨_, rfl, q f l H2 s2 nf hf fl el⟩

end
end KR
namespace KR
open PySem PySem.Spec PyProof.Rows L2
section
variable {P : Program} {w : World} {K : PySem.W.Frag} {mg : Str → Option Value} {base : Heap}
def sp_p_loaves_of (K : PySem.W.Frag) : Sp := fun vs H Q _ => ∃ (kl al : Addr) (ks : List Kn) (am : List Fz) (M B n : Nat) (p p2 : Bool), vs = [.ref kl, .ref al] ∧ SqB K H kl (rk ks) p ∧ SqB K H al (rz am) p2 ∧ KnL K H n ks ∧ FL K H am ∧ am.length = ks.length ∧ ks.length ≤ 6 ∧ AmOk M B (am.map (·.2)) ∧
  ∀ (f : Addr) (l : List Fz) (H' : Hp), Same H H' → H f = none → H' f = some (.lst (rz l)) → FL K H' l → l.map (·.2) = loavesQ (ks.map Kn.q) (am.map (·.2)) → Q (.ref f) H'
theorem ok_p_loaves_of (T : All K mg) : FnOk P w K mg base CX0 4 T.f_p_loaves_of T.fd_p_loaves_of ["kinds", "amounts"] (sp_p_loaves_of K) := by
  refine T.d_p_loaves_of.fn.ok sc_p_loaves_of (fun vs H Q E h => ?_) (fun cdv A outer s H vs Q E hr h => ?_)
  · obtain ⟨kl, al, ks, am, M, B, n, p, p2, rfl, _⟩ := h
    rfl
  · obtain ⟨kl, al, ks, am, M, B, n, p, p2, rfl, hk, ha, L, fa, len, l6, ok, q⟩ := h
    refine ⟨_, (pss_cons (ps_set (i := 2) sc_p_loaves_of.nd rfl (by first | exact Or.inl rfl | exact Or.inr rfl) (pe_call (ok_p__dripped_of T) hr (by rfl) T.d_p__dripped_of.mg T.d_p__dripped_of.fn.kp T.d_p__dripped_of.b .nil pass0 (pa_cons (pv 0) (pa_cons (pv 1) pa_nil))))
      (pss_one (ps_ret (pe_lc (own := [("amount", 3), ("drips", 4)]) (g := gTup K 2 (gCons (gName 3) (gCons (gName 4) gNil))) (tt := tYes) (by rfl) sc_p_loaves_of.nd (pi_zipB (K := K) rfl (by rfl) T.b_zip (pa_cons (pv 1) (pa_cons (pv 2) pa_nil))) (blkOk_by (own := [("amount", 3), ("drips", 4)]) (N := ["kinds", "amounts", "dripped", "amount", "drips"]) (sc := defScope s_p_loaves_of) (by decide +kernel)) (fun _ _ _ _ _ => (pg_tupK (K := K) rfl rfl (pgs_cons (pg_name (i := 3) sc_p_loaves_of.nd rfl (by first | exact Or.inl rfl | exact Or.inr rfl)) (pgs_cons (pg_name (i := 4) sc_p_loaves_of.nd rfl (by first | exact Or.inl rfl | exact Or.inr rfl)) pgs_nil)))) (fun _ _ _ _ _ => pts_nil) (fun _ _ _ _ _ => (pe_call (ok_p_difference T) (hr.mono (by decide)) (by rfl) T.d_p_difference.mg T.d_p_difference.fn.kp T.d_p_difference.b .nil pass0 (pa_cons (pv 3) (pa_cons (pv 4) pa_nil)))))))), ?_⟩
    have lq : (am.map (·.2)).length = (ks.map Kn.q).length := by rw [List.length_map, List.length_map, len]
    refine ⟨_, rfl, _, rfl, kl, al, ks, am, M, B, n, p, p2, rfl, hk, ha, L, fa, len, l6, ok, fun dl dr H0 s0 n0 h0 fd ed => ?_⟩
    have dlen : dr.length = ks.length := by
      have e := congrArg List.length ed
      rw [List.length_map, drips_len lq, List.length_map] at e
      exact e
    refine ⟨_, rfl, _, rfl, al, dl, rz am, rz dr, p2, true, rfl, ha.same s0, SqL.of h0, fun D hD => ?_⟩
    refine lc_it (walk_zipB (K := K) (a := al) (b := dl) (xs := rz am) (ys := rz dr) (p := p2) (q := true) (n := ks.length) ((rz_len am).trans len) ((rz_len dr).trans dlen)) (fun j H' => ∃ m : List Fz, Same H0 H' ∧ H' D = some (.lst (rz m)) ∧ FL K H' m ∧ m.map (·.2) = (loavesQ (ks.map Kn.q) (am.map (·.2))).take j)
      ⟨[], same_new hD, upd_same, .nil, rfl⟩ (fun j H' _ ⟨m, s, _⟩ => ⟨ha.same (s0.trans s), SqL.of (s _ _ h0)⟩) ?_ ?_
    · rintro j v H4 H5 hj ⟨m, s4, hD4, fm, em⟩ ⟨U, x1, y1, rfl, hU, rfl, gx, gy⟩
      obtain ⟨za, ea, rfl⟩ := rz_get gx
      obtain ⟨zd, ezd, rfl⟩ := rz_get gy
      have sU : Same H4 (upd H4 U (.tup [.ref za.1, .ref zd.1])) := same_new hU
      have hU5 : (upd H4 U (.tup [.ref za.1, .ref zd.1])) U = some (.tup [.ref za.1, .ref zd.1]) := upd_same
      generalize upd H4 U (.tup [.ref za.1, .ref zd.1]) = H5 at sU hU5
      have s45 := s4.trans sU
      have ekj : ks[j]? = some ks[j] := List.getElem?_eq_getElem hj
      generalize ks[j] = kj at ekj
      have mk := List.mem_of_getElem? ekj
      have ma := List.mem_of_getElem? ea
      have mq : za.2 ∈ am.map (·.2) := List.mem_map.mpr ⟨za, ma, rfl⟩
      have pd := (L kj mk).pd
      have fz := (fa za ma).same (s0.trans s45)
      have fdz := (fd zd (List.mem_of_getElem? ezd)).same s45
      have ezq : zd.2 = za.2 * kj.drip := by
        have k1 := rz_q ezd
        rw [ed, drips_get (ks := ks.map Kn.q) (rz_q ea) (by rw [List.getElem?_map, ekj] <;> rfl)] at k1
        exact (Option.some.inj k1).symm
      rw [ezq] at fdz
      refine ⟨U, _, rfl, SqT.of hU5, rfl, _, _, rfl, _, _, rfl, rfl, rfl, yesT ?_⟩
      refine ⟨_, rfl, _, rfl, za.1, zd.1, za.2, _, rfl, fz, fdz, ok.one mq, ok.drips_big mq pd, trivial, fun z2 H7 s7 n7 h7 => ?_⟩
      have s47 := sU.trans s7
      have hD7 := s47 _ _ hD4
      have ml : m.length ≤ 6 := by
        have e := congrArg List.length em
        rw [List.length_map, List.length_take, show (loavesQ (ks.map Kn.q) (am.map (·.2))).length = _ from zw_len lq, List.length_map] at e
        omega
      refine ⟨_, hD7, by rw [rz_len]; exact small' (by omega), m ++ [(z2, za.2 - za.2 * kj.drip)], Same.put (s4.trans s47) hD, by rw [upd_same, rz_snoc], FL.put (FL.snoc (fm.same s47) h7) hD7, ?_⟩
      have cg : (loavesQ (ks.map Kn.q) (am.map (·.2)))[j]? = some (za.2 - za.2 * kj.drip) := zw_get (k := kj.q) (rz_q ea) (by rw [List.getElem?_map, ekj] <;> rfl)
      rw [List.map_append, em, take_one cg] <;> rfl
    · rintro H4 ⟨m, s4, hD4, fm, em⟩
      refine q D m H4 (s0.trans s4) (by
        cases e : H D with
        | none => rfl
        | some o =>
          have k := s0 _ _ e
          rw [hD] at k
          cases k) hD4 fm ?_
      rw [em, ← List.length_map (as := ks) Kn.q, ← (show (loavesQ (ks.map Kn.q) (am.map (·.2))).length = _ from zw_len lq), List.take_length]

end
end KR
namespace KR
open PySem PySem.Spec PyProof.Rows L2
section
variable {P : Program} {w : World} {K : PySem.W.Frag} {mg : Str → Option Value} {base : Heap}
def sp_p_sold_of (K : PySem.W.Frag) : Sp := fun vs H Q _ => ∃ (kl al : Addr) (ks : List Kn) (am : List Fz) (M B n : Nat) (p p2 : Bool), vs = [.ref kl, .ref al] ∧ SqB K H kl (rk ks) p ∧ SqB K H al (rz am) p2 ∧ KnL K H n ks ∧ n ≤ 7 ∧ FL K H am ∧ am.length = ks.length ∧ ks.length ≤ 6 ∧ AmOk M B (am.map (·.2)) ∧
  ∀ (z : Addr) (H' : Hp), Same H H' → FrQ K H' z (zsum (soldQ (ks.map Kn.q) (am.map (·.2)))) → Q (.ref z) H'
theorem sold_all {K : PySem.W.Frag} {H : Hp} {ks : List Kn} {am : List Fz} {M B n : Nat} (L : KnL K H n ks) (ok : AmOk M B (am.map (·.2))) : ∀ r ∈ soldQ (ks.map Kn.q) (am.map (·.2)), Dv (M * 768398400) r ∧ 0 ≤ r ∧ r ≤ ((6 * B + 1000000 : Nat) : Int) := fun r hr => by
  obtain ⟨y, hy, k, hk, rfl⟩ := zw_mem hr
  obtain ⟨kn, hkn, rfl⟩ := List.mem_map.mp hk
  have KO := L kn hkn
  obtain ⟨c1, c2, c3⟩ := ok.sold hy KO.pd (g := kn.goes.map (·.2)) (mem_q KO.go.pa) KO.go.one
  exact ⟨c1, c2, AmOk.up (a := ok) c3⟩
theorem ok_p_sold_of (T : All K mg) : FnOk P w K mg base CX0 4 T.f_p_sold_of T.fd_p_sold_of ["kinds", "amounts"] (sp_p_sold_of K) := by
  refine T.d_p_sold_of.fn.ok sc_p_sold_of (fun vs H Q E h => ?_) (fun cdv A outer s H vs Q E hr h => ?_)
  · obtain ⟨kl, al, ks, am, M, B, n, p, p2, rfl, _⟩ := h
    rfl
  · obtain ⟨kl, al, ks, am, M, B, n, p, p2, rfl, hk, ha, L, n7, fa, len, l6, ok, q⟩ := h
    refine ⟨_, (pss_cons (ps_set (i := 2) sc_p_sold_of.nd rfl (by first | exact Or.inl rfl | exact Or.inr rfl) (pe_lstI pa_nil))
      (pss_cons (ps_for PassesOwn.never rfl (pi_zipB (K := K) rfl (by rfl) T.b_zip (pa_cons (pe_call (ok_p__dripped_of T) hr (by rfl) T.d_p__dripped_of.mg T.d_p__dripped_of.fn.kp T.d_p__dripped_of.b .nil pass0 (pa_cons (pv 0) (pa_cons (pv 1) pa_nil))) (pa_cons (pv 0) pa_nil))) (pg_tupK (K := K) rfl rfl (pgs_cons (pg_name (i := 3) sc_p_sold_of.nd rfl (by first | exact Or.inl rfl | exact Or.inr rfl)) (pgs_cons (pg_tupK (K := K) rfl rfl (pgs_cons (pg_name (i := 4) sc_p_sold_of.nd rfl (by first | exact Or.inl rfl | exact Or.inr rfl)) (pgs_cons (pg_name (i := 4) sc_p_sold_of.nd rfl (by first | exact Or.inl rfl | exact Or.inr rfl)) (pgs_cons (pg_name (i := 5) sc_p_sold_of.nd rfl (by first | exact Or.inl rfl | exact Or.inr rfl)) pgs_nil)))) pgs_nil))) (pss_one (ps_expr (pe_bm PySem.F.plainAttrs_list PySem.F.slot_list_append PySem.F.type_list_append mt_append (pv 2) (pa_cons (pe_call (ok_p_product T) (hr.mono (by decide)) (by rfl) T.d_p_product.mg T.d_p_product.fn.kp T.d_p_product.b .nil pass0 (pa_cons (pv 3) (pa_cons (pe_call (ok_p_difference T) (hr.mono (by decide)) (by rfl) T.d_p_difference.mg T.d_p_difference.fn.kp T.d_p_difference.b .nil pass0 (pa_cons (pe_glob (v := .ref T.C_ONE) rfl T.g_ONE rfl) (pa_cons (pe_call (ok_p_sum_of_all T) hr (by rfl) T.d_p_sum_of_all.mg T.d_p_sum_of_all.fn.kp T.d_p_sum_of_all.b .nil pass0 (pa_cons (pv 5) pa_nil)) pa_nil))) pa_nil))) pa_nil)))))
      (pss_one (ps_ret (pe_call (ok_p_sum_of_all T) hr (by rfl) T.d_p_sum_of_all.mg T.d_p_sum_of_all.fn.kp T.d_p_sum_of_all.b .nil pass0 (pa_cons (pv 2) pa_nil)))))), ?_⟩
    have lq : (am.map (·.2)).length = (ks.map Kn.q).length := by rw [List.length_map, List.length_map, len]
    have slen : (soldQ (ks.map Kn.q) (am.map (·.2))).length = ks.length := (show (soldQ (ks.map Kn.q) (am.map (·.2))).length = _ from zw_len lq).trans (List.length_map _)
    have soldP := sold_all L ok
    have soldM := ok.many soldP (by rw [slen]; omega)
    have soldB : ∀ r ∈ soldQ (ks.map Kn.q) (am.map (·.2)), Big r := fun r hr => ok.big (soldP r hr).1 (Nat.dvd_refl _) (soldP r hr).2.1 (soldP r hr).2.2
    refine ⟨rfl, fun f H1 s1 n1 h1 => ?_⟩
    refine ⟨_, rfl, _, rfl, kl, al, ks, am, M, B, n, p, p2, rfl, hk.same s1, ha.same s1, L.same s1, fa.same s1, len, l6, ok, fun dl dr H2 s2 n2 h2 fd ed => ?_⟩
    have dlen : dr.length = ks.length := by
      have e := congrArg List.length ed
      rw [List.length_map, drips_len lq, List.length_map] at e
      exact e
    have s12 := s1.trans s2
    refine ⟨_, rfl, dl, kl, rz dr, rk ks, true, p, rfl, SqL.of h2, hk.same s12, for_it (walk_zipB (K := K) (a := dl) (b := kl) (xs := rz dr) (ys := rk ks) (p := true) (q := p) (n := ks.length) ((rz_len dr).trans dlen) (rk_len ks)) (fun j σ H' => ∃ (m : List Fz) (v3 v4 v5 : Option V), σ = [some (.ref kl), some (.ref al), some (.ref f), v3, v4, v5] ∧ Same H H' ∧ H' dl = some (.lst (rz dr)) ∧ FL K H' dr ∧ H' f = some (.lst (rz m)) ∧ FL K H' m ∧ m.map (·.2) = (soldQ (ks.map Kn.q) (am.map (·.2))).take j)
      ⟨[], none, none, none, rfl, s12, h2, fd, s2 _ _ h1, .nil, rfl⟩ (fun j σ H' _ ⟨m, _, _, _, _, s, hd, _⟩ => ⟨SqL.of hd, hk.same s⟩) ?_ ?_⟩
    · rintro j v σ H4 H5 hj ⟨m, v3, v4, v5, rfl, s4, hd4, fd4, hf4, fm, em⟩ ⟨U, x1, y1, rfl, hU, rfl, gx, gy⟩
      obtain ⟨zd, ezd, rfl⟩ := rz_get gx
      obtain ⟨kj, ekj, rfl⟩ := rk_get gy
      have sU : Same H4 (upd H4 U (.tup [.ref zd.1, .ref kj.a])) := same_new hU
      have hU5 : (upd H4 U (.tup [.ref zd.1, .ref kj.a])) U = some (.tup [.ref zd.1, .ref kj.a]) := upd_same
      generalize upd H4 U (.tup [.ref zd.1, .ref kj.a]) = H5 at sU hU5
      have s5 := s4.trans sU
      have mk := List.mem_of_getElem? ekj
      have ja : j < am.length := by rw [len]; exact hj
      have ea : am[j]? = some am[j] := List.getElem?_eq_getElem ja
      generalize am[j] = za at ea
      have ma := List.mem_of_getElem? ea
      have mq : za.2 ∈ am.map (·.2) := List.mem_map.mpr ⟨za, ma, rfl⟩
      have KO := (L kj mk).same s5
      have fz := (fd4 zd (List.mem_of_getElem? ezd)).same sU
      have ezq : zd.2 = za.2 * kj.drip := by
        have k1 := rz_q ezd
        rw [ed, drips_get (ks := ks.map Kn.q) (rz_q ea) (by rw [List.getElem?_map, ekj] <;> rfl)] at k1
        exact (Option.some.inj k1).symm
      rw [ezq] at fz
      have gl : (kj.goes.map (·.2)).length ≤ 7 := by rw [List.length_map, KO.go.len]; exact n7
      have sB : Big (zsum (kj.goes.map (·.2))) := by
        have k := parts_add (mem_q KO.go.pa) gl (kj.goes.map (·.2)).length (Nat.le_refl _)
        rw [List.take_length] at k
        exact k
      have rB : Big (1 - zsum (kj.goes.map (·.2))) := by
        have d := (Dv.int (M := 27720) 1).sub (Dv.all fun x hx => (mem_q KO.go.pa x hx).dv)
        have g0 := zsum_nn fun x hx => (mem_q KO.go.pa x hx).lo
        have g1 := KO.go.one
        refine Dv.szN (B := 1) d (by decide) (show (0 : Rat) ≤ 1 - _ by grind) (show (1 : Rat) - _ ≤ ((1 : Int) : Rat) by have : ((1 : Int) : Rat) = 1 := rfl; grind) (by decide) (Nat.lt_of_lt_of_le (by decide : 1 * 27720 < 2 ^ 20) (Nat.pow_le_pow_right (by decide) (by decide)))
      refine ⟨U, _, rfl, SqT.of hU5, rfl, _, _, rfl, _, _, rfl, kj.a, _, rfl, KO.at_, rfl, _, _, rfl, _, _, rfl, _, _, rfl, rfl, rfl, ?_⟩
      have hf5 := sU _ _ hf4
      refine ⟨_, rfl, .inl ⟨rfl, _, SqL.of hf5⟩, _, rfl, _, rfl, kj.g, kj.goes, false, rfl, KO.gs, KO.go.fl, fun z hz => part_big (KO.go.pa z hz), parts_add (mem_q KO.go.pa) gl, fun z1 H6 s6 h6 => ?_⟩
      refine ⟨T.C_ONE, z1, 1, _, rfl, T.q_ONE _, h6, Sz.up (n := 1) ⟨by decide, by decide⟩ (by decide), sB, trivial, fun z2 H7 s7 n7' h7 => ?_⟩
      have s57 := s6.trans s7
      refine ⟨zd.1, z2, _, _, rfl, fz.same s57, h7, ok.drips_big mq KO.pd, rB, trivial, fun z3 H8 s8 n8 h8 => ?_⟩
      have s48 := sU.trans (s57.trans s8)
      have hf8 := s48 _ _ hf4
      have ml : m.length ≤ 6 := by
        have e := congrArg List.length em
        rw [List.length_map, List.length_take, slen] at e
        omega
      have dne : dl ≠ f := fun z => by
        have k := s2 _ _ h1
        rw [← z] at h1
        rw [h1] at n2
        cases n2
      refine ⟨f, _, _, rfl, rfl, hf8, by rw [rz_len]; exact small' (by omega), ?_⟩
      refine ⟨m ++ [(z3, za.2 * kj.drip * (1 - zsum (kj.goes.map (·.2))))], _, _, _, rfl, Same.put (s4.trans s48) n1, by rw [upd_ne dne]; exact s48 _ _ hd4, FL.put (fd4.same s48) hf8, by rw [upd_same, rz_snoc], FL.put (FL.snoc (fm.same s48) h8) hf8, ?_⟩
      have cg : (soldQ (ks.map Kn.q) (am.map (·.2)))[j]? = some (za.2 * kj.drip * (1 - zsum (kj.goes.map (·.2)))) := zw_get (k := kj.q) (rz_q ea) (by rw [List.getElem?_map, ekj] <;> rfl)
      rw [List.map_append, em, take_one cg] <;> rfl
    · rintro σ H4 ⟨m, v3, v4, v5, rfl, s4, hd4, fd4, hf4, fm, em⟩
      have em' : m.map (·.2) = soldQ (ks.map Kn.q) (am.map (·.2)) := by
        rw [em, ← slen, List.take_length]
      refine ⟨_, rfl, f, m, true, rfl, SqL.of hf4, fm, fun z hz => soldB _ (by rw [← em']; exact List.mem_map.mpr ⟨z, hz, rfl⟩), by rw [em']; exact soldM.1, fun z H5 s5 h5 => ?_⟩
      rw [em'] at h5
      exact q z H5 (s4.trans s5) h5

end
end KR
namespace KR
open PySem PySem.Spec PyProof.Rows L2
section
variable {P : Program} {w : World} {K : PySem.W.Frag} {mg : Str → Option Value} {base : Heap}
theorem ok_p_gap_between (T : All K mg) : FnOk P w K mg base CX0 4 T.f_p_gap_between T.fd_p_gap_between ["one", "other"] (sp_gap K) := by
  refine T.d_p_gap_between.fn.ok sc_p_gap_between (fun vs H Q E h => ?_) (fun cdv A outer s H vs Q E hr h => ?_)
  · obtain ⟨x, y, a, b, p1, p2, rfl, _⟩ := h
    rfl
  · obtain ⟨x, y, a, b, p1, p2, rfl, hx, hy, fa, fb, len, l6, ok, q⟩ := h
    refine ⟨_, (pss_cons (ps_set (i := 2) sc_p_gap_between.nd rfl (by first | exact Or.inl rfl | exact Or.inr rfl) (pe_lstI pa_nil))
      (pss_cons (ps_for PassesOwn.never rfl (pi_zipB (K := K) rfl (by rfl) T.b_zip (pa_cons (pv 0) (pa_cons (pv 1) pa_nil))) (pg_tupK (K := K) rfl rfl (pgs_cons (pg_name (i := 3) sc_p_gap_between.nd rfl (by first | exact Or.inl rfl | exact Or.inr rfl)) (pgs_cons (pg_name (i := 4) sc_p_gap_between.nd rfl (by first | exact Or.inl rfl | exact Or.inr rfl)) pgs_nil))) (pss_cons (ps_asg (pe_call (ok_p_difference T) (hr.mono (by decide)) (by rfl) T.d_p_difference.mg T.d_p_difference.fn.kp T.d_p_difference.b .nil pass0 (pa_cons (pv 3) (pa_cons (pv 4) pa_nil))) (pg_tupK (K := K) rfl rfl (pgs_cons (pg_name (i := 5) sc_p_gap_between.nd rfl (by first | exact Or.inl rfl | exact Or.inr rfl)) (pgs_cons (pg_name (i := 6) sc_p_gap_between.nd rfl (by first | exact Or.inl rfl | exact Or.inr rfl)) pgs_nil))))
      (pss_one (ps_expr (pe_bm PySem.F.plainAttrs_list PySem.F.slot_list_append PySem.F.type_list_append mt_append (pv 2) (pa_cons (pe_tupI (pa_cons (pe_callB call_abs (by rfl) T.b_abs (by decide +kernel) (pa_cons (pv 5) pa_nil)) (pa_cons (pv 6) pa_nil))) pa_nil))))))
      (pss_one (ps_ret (pe_call (ok_p_sum_of_all T) hr (by rfl) T.d_p_sum_of_all.mg T.d_p_sum_of_all.fn.kp T.d_p_sum_of_all.b .nil pass0 (pa_cons (pv 2) pa_nil)))))), ?_⟩
    have lab : (a.map (·.2)).length = (b.map (·.2)).length := by rw [List.length_map, List.length_map, len]
    have glen : (gapsQ (a.map (·.2)) (b.map (·.2))).length = b.length := by rw [gaps_len lab, List.length_map, len]
    refine ⟨rfl, fun g H1 s1 n1 h1 => ?_⟩
    refine ⟨_, rfl, _, rfl, x, y, rz a, rz b, p1, p2, rfl, hx.same s1, hy.same s1, for_it (walk_zipB (K := K) (a := x) (b := y) (xs := rz a) (ys := rz b) (p := p1) (q := p2) (n := b.length) ((rz_len a).trans len) (rz_len b)) (fun j σ H' => ∃ (m : List Fz) (v3 v4 v5 v6 : Option V), σ = [some (.ref x), some (.ref y), some (.ref g), v3, v4, v5, v6] ∧ Same H H' ∧ H' g = some (.lst (rz m)) ∧ FL K H' m ∧ m.map (·.2) = (gapsQ (a.map (·.2)) (b.map (·.2))).take j)
      ⟨[], none, none, none, none, rfl, s1, h1, .nil, rfl⟩ (fun j σ H' _ ⟨m, _, _, _, _, _, s, _⟩ => ⟨hx.same s, hy.same s⟩) ?_ ?_⟩
    · rintro j v σ H4 H5 hj ⟨m, v3, v4, v5, v6, rfl, s4, hg, fm, em⟩ ⟨U, x1, y1, rfl, hU, rfl, gx, gy⟩
      obtain ⟨za, ea, rfl⟩ := rz_get gx
      obtain ⟨zb, eb, rfl⟩ := rz_get gy
      have sU : Same H4 (upd H4 U (.tup [.ref za.1, .ref zb.1])) := same_new hU
      have hU5 : (upd H4 U (.tup [.ref za.1, .ref zb.1])) U = some (.tup [.ref za.1, .ref zb.1]) := upd_same
      generalize upd H4 U (.tup [.ref za.1, .ref zb.1]) = H5 at sU hU5
      have s5 := s4.trans sU
      have ma := List.mem_of_getElem? ea
      have mb := List.mem_of_getElem? eb
      have qa : za.2 ∈ a.map (·.2) := List.mem_map.mpr ⟨za, ma, rfl⟩
      have qb : zb.2 ∈ b.map (·.2) := List.mem_map.mpr ⟨zb, mb, rfl⟩
      refine ⟨U, _, rfl, SqT.of hU5, rfl, _, _, rfl, _, _, rfl, rfl, ?_⟩
      refine ⟨_, rfl, _, rfl, za.1, zb.1, za.2, zb.2, rfl, (fa za ma).same s5, (fb zb mb).same s5, ok.ba _ qa, ok.bb _ qb, trivial, fun z1 H6 s6 n6 h6 => ?_⟩
      have h6' : SqT K H6 z1 [.int (za.2 - zb.2).num, .int ((za.2 - zb.2).den : Int)] := h6
      refine ⟨z1, _, rfl, h6', rfl, _, _, rfl, _, _, rfl, rfl, ?_⟩
      have s46 := sU.trans s6
      have hg6 := s46 _ _ hg
      refine ⟨_, rfl, .inl ⟨rfl, _, SqL.of hg6⟩, _, rfl, _, rfl, _, rfl, rfl, fun t H7 s7 n7 h7 => ?_⟩
      have hg7 := s7 _ _ hg6
      have ml : m.length ≤ b.length := by
        have e := congrArg List.length em
        rw [List.length_map, List.length_take] at e
        omega
      refine ⟨g, _, _, rfl, rfl, hg7, by rw [rz_len]; exact small' (by omega), ?_⟩
      refine ⟨m ++ [(t, absQ (za.2 - zb.2))], _, _, _, _, rfl, Same.put (s4.trans (s46.trans s7)) n1, by rw [upd_same, rz_snoc], FL.put (FL.snoc (fm.same (s46.trans s7)) (abs_at h7)) hg7, ?_⟩
      rw [List.map_append, em, take_one (gaps_get (rz_q ea) (rz_q eb))] <;> rfl
    · rintro σ H4 ⟨m, v3, v4, v5, v6, rfl, s4, hg, fm, em⟩
      have em' : m.map (·.2) = gapsQ (a.map (·.2)) (b.map (·.2)) := by rw [em, ← glen, List.take_length]
      refine ⟨_, rfl, g, m, true, rfl, SqL.of hg, fm, fun z hz => ok.bg _ (by rw [← em']; exact List.mem_map.mpr ⟨z, hz, rfl⟩), by rw [em']; exact ok.add, fun z H7 s7 h7 => ?_⟩
      rw [em'] at h7
      exact q z H7 (s4.trans s7) h7

end
end KR
namespace KR
open PySem PySem.Spec PyProof.Rows L2
section
variable {P : Program} {w : World} {K : PySem.W.Frag} {mg : Str → Option Value} {base : Heap}
def sp_p_are_amounts (K : PySem.W.Frag) (P : Addr) : Sp := fun vs H Q _ => ∃ (kl al : Addr) (ks : List Kn) (am : List Fz), vs = [.ref kl, .ref al] ∧ SqL K H kl (rk ks) ∧ H al = some (.lst (rz am)) ∧ FL K H am ∧ am.length = ks.length ∧ (∀ z ∈ am, 0 ≤ z.2) ∧ GxR.TabG H P ∧ ∀ H', Sm H H' → Q (.bl true) H'
theorem FrQ.sm {K : PySem.W.Frag} {H H' : Hp} {x : Addr} {q : Rat} (h : FrQ K H x q) (s : Sm H H') : FrQ K H' x q := s.tup h
theorem FL.sm {K : PySem.W.Frag} {H H' : Hp} {l : List Fz} (h : FL K H l) (s : Sm H H') : FL K H' l := fun z hz => (h z hz).sm s
theorem KnOk.sm {K : PySem.W.Frag} {H H' : Hp} {n : Nat} {k : Kn} (h : KnOk K H n k) (s : Sm H H') : KnOk K H' n k := ⟨s.tup h.at_, h.dr.sm s, s.tup h.gs, ⟨h.go.fl.sm s, h.go.len, h.go.pa, h.go.one⟩, h.pd, h.f0, h.f1⟩
theorem KnL.sm {K : PySem.W.Frag} {H H' : Hp} {n : Nat} {ks : List Kn} (h : KnL K H n ks) (s : Sm H H') : KnL K H' n ks := fun k hk => (h k hk).sm s
theorem ok_p_are_amounts (T : All K mg) (B : Tabs T base) : FnOk P w K mg base CX0 4 T.f_p_are_amounts T.fd_p_are_amounts ["kinds", "thing"] (sp_p_are_amounts K T.P_p_are_amounts) := by
  refine T.k_p_are_amounts.ok sc_p_are_amounts (fun vs H Q E h => ?_) (fun cdv A outer s H vs Q E hc hr h => ?_)
  · obtain ⟨kl, al, ks, am, rfl, _⟩ := h
    rfl
  · obtain ⟨kl, al, ks, am, rfl, hk, ha, fa, len, nn, hT, q⟩ := h
    refine ⟨_, (pss_cons (ps_if (PW.pt (pw_or (pt_not (pt_val (pe_callB (isiK (K := K) rfl) (by rfl) T.b_isinstance (by decide +kernel) (pa_cons (pv 1) (pa_cons (pe_bltn (v := .ty "list") (by rfl) T.b_list (by decide +kernel) rfl) pa_nil))))) (pw_or1 (pt_cmpR op_ne (pe_callB (lenQ (K := K) rfl) (by rfl) T.b_len PySem.boot_len (pa_cons (pv 1) pa_nil)) (pe_callB (lenQ (K := K) rfl) (by rfl) T.b_len PySem.boot_len (pa_cons (pv 0) pa_nil)) (nomark _))))) (pss_one (ps_ret pe_bl)) pss_nil)
      (pss_one (ps_ret (pe_allG hr (by rfl) T.b_all (by decide +kernel) B.t_p_are_amounts hc ⟨rfl, rfl, by decide +kernel, by decide +kernel, rfl, rfl⟩ (pi_listK (K := K) rfl (pv 1)) (fun _ _ _ _ _ _ => (pe_and (pe_call (ok_p_is_frac T) (room_gen hr) (by rfl) T.d_p_is_frac.mg T.d_p_is_frac.fn.kp T.d_p_is_frac.b .nil pass0 (pa_cons (pv 0) pa_nil)) (pe_one (pe_cmpR op_ge (pe_ix (ixT (K := K) rfl) (pv 0) pe_int (fun _ _ => rfl)) pe_int (nomark _))))) (by intro _; rfl))))), ?_⟩
    refine ⟨_, rfl, _, _, _, _, _, rfl, .ty _, .base (.lst ha), kit_ty (show kitB "list" "list" = some true by decide +kernel), _, rfl, iteF ?_⟩
    refine ⟨_, rfl, al, _, rfl, .inl (SqL.of ha), _, rfl, kl, _, rfl, .inl hk, ?_⟩
    rw [rz_len, rk_len]
    refine ⟨rfl, _, rfl, ite_nF (by omega) ?_⟩
    refine ⟨_, rfl, al, rfl, ⟨_, SqL.of ha⟩, hT, am.length, fun i H' => Sm H H' ∧ i ≤ am.length, fun H2 tb => ⟨Sm.tabbed tb hT, Nat.zero_le _⟩, fun i H2 ⟨sm, le⟩ => ?_⟩
    by_cases c : i = am.length
    · subst c
      refine .inl ⟨⟨_, sm.seq (SqL.of ha), by rw [rz_len]; omega⟩, q H2 sm⟩
    · have lt : i < am.length := by omega
      have ez : am[i]? = some am[i] := List.getElem?_eq_getElem lt
      generalize am[i] = z at ez
      refine .inr ⟨⟨_, _, sm.seq (SqL.of ha), rz_at ez⟩, lt, fun y H3 ⟨e3, hy⟩ => ?_⟩
      subst e3
      obtain rfl := Option.some.inj ((hy _ (sm.seq (SqL.of ha))).symm.trans (rz_at ez))
      have mz := List.mem_of_getElem? ez
      have fz := (fa z mz).sm sm
      refine ⟨_, rfl, z.1, z.2.num, (z.2.den : Int), rfl, fz, rat_low z.2, true, rfl, iteT ?_⟩
      refine ⟨_, rfl, z.1, _, 0, _, rfl, rfl, fz, at0, _, _, rfl, rfl, ?_⟩
      refine ⟨_, rfl, ?_⟩
      exact ite_bT (decide_eq_true (Rat.num_nonneg.mpr (nn z mz))) ⟨sm, by omega⟩

end
end KR
namespace KR
open PySem PySem.Spec PyProof.Rows L2
section
variable {P : Program} {w : World} {K : PySem.W.Frag} {mg : Str → Option Value} {base : Heap}
def sp_p__goes_in_all (K : PySem.W.Frag) : Sp := fun vs H Q _ => ∃ (pl : Addr) (k : Kn) (n : Nat) (ps : List Nat), vs = [.ref k.a, .ref pl] ∧ KnOk K H n k ∧ SqL K H pl (ri ps) ∧ (∀ i ∈ ps, i < n) ∧ n ≤ 6 ∧ ps.length ≤ 6 ∧
  ∀ (z : Addr) (H' : Hp), Same H H' → FrQ K H' z (zsum (ps.map fun i => (k.goes.map (·.2)).getD i 0)) → Q (.ref z) H'
theorem ok_p__goes_in_all (T : All K mg) : FnOk P w K mg base CX0 4 T.f_p__goes_in_all T.fd_p__goes_in_all ["kind", "places"] (sp_p__goes_in_all K) := by
  refine T.d_p__goes_in_all.fn.ok sc_p__goes_in_all (fun vs H Q E h => ?_) (fun cdv A outer s H vs Q E hr h => ?_)
  · obtain ⟨pl, k, n, ps, rfl, _⟩ := h
    rfl
  · obtain ⟨pl, k, n, ps, rfl, KO, hp, lt, n6, p6, q⟩ := h
    refine ⟨_, (pss_one (ps_ret (pe_call (ok_p_sum_of_all T) hr (by rfl) T.d_p_sum_of_all.mg T.d_p_sum_of_all.fn.kp T.d_p_sum_of_all.b .nil pass0 (pa_cons (pe_lc (own := [("place", 2)]) (g := gName 2) (tt := tYes) (by rfl) sc_p__goes_in_all.nd (pi_listK (K := K) rfl (pv 1)) (blkOk_by (own := [("place", 2)]) (N := ["kind", "places", "place"]) (sc := defScope s_p__goes_in_all) (by decide +kernel)) (fun _ _ _ _ _ => (pg_name (i := 2) sc_p__goes_in_all.nd rfl (by first | exact Or.inl rfl | exact Or.inr rfl))) (fun _ _ _ _ _ => pts_nil) (fun _ _ _ _ _ => (pe_ix (ixT (K := K) rfl) (pe_ix (ixT (K := K) rfl) (pv 0) pe_int (fun _ _ => rfl)) (pv 2) (fun _ _ => rfl)))) pa_nil)))), ?_⟩
    refine ⟨_, rfl, pl, rfl, ⟨_, hp⟩, fun D hD => ?_⟩
    refine lc_it (walk_list (K := K) (a := pl) (xs := ri ps)) (fun j H' => ∃ m : List Fz, Same H H' ∧ H' D = some (.lst (rz m)) ∧ FL K H' m ∧ (∀ z ∈ m, Part z.2) ∧ m.map (·.2) = (ps.map fun i => (k.goes.map (·.2)).getD i 0).take j)
      ⟨[], same_new hD, upd_same, .nil, fun z hz => absurd hz List.not_mem_nil, rfl⟩ (fun j H' _ ⟨m, s, _⟩ => s.seq hp) ?_ ?_
    · rintro j v H2 H3 hj ⟨m, s2, hD2, fm, pm, em⟩ ⟨rfl, hv⟩
      obtain ⟨i, ei, rfl⟩ := ri_get hv
      have il := lt i (List.mem_of_getElem? ei)
      have KO2 := KO.same s2
      have gi : i < k.goes.length := by rw [KO.go.len]; exact il
      have gg : k.goes[i]? = some k.goes[i] := List.getElem?_eq_getElem gi
      generalize k.goes[i] = zg at gg
      have mg' := List.mem_of_getElem? gg
      have gx2 : (rz k.goes)[i]? = some (.ref zg.1) := by
        unfold rz
        rw [List.getElem?_map, gg] <;> rfl
      refine ⟨rfl, yesT ?_⟩
      refine ⟨_, rfl, k.a, _, 2, _, rfl, rfl, KO2.at_, at2, _, rfl, k.g, _, (i : Int), _, rfl, rfl, KO2.gs, at_of rfl gx2, ?_⟩
      have ml : m.length ≤ 6 := by
        have e := congrArg List.length em
        rw [List.length_map, List.length_take, List.length_map] at e
        omega
      refine ⟨_, hD2, by rw [rz_len]; exact small' (by omega), m ++ [zg], Same.put s2 hD, by rw [upd_same, rz_snoc], FL.put (FL.snoc fm (KO2.go.fl zg mg')) hD2, fun z hz => ?_, ?_⟩
      · rcases List.mem_append.mp hz with h | h
        · exact pm z h
        · rw [List.mem_singleton.mp h]
          exact KO.go.pa zg mg'
      · have cg : (ps.map fun i => (k.goes.map (·.2)).getD i 0)[j]? = some zg.2 := by
          rw [List.getElem?_map, ei]
          refine congrArg some ?_
          show (k.goes.map (·.2)).getD i 0 = zg.2
          rw [List.getD_eq_getElem?_getD, rz_q gg] <;> rfl
        rw [List.map_append, em, take_one cg] <;> rfl
    · rintro H2 ⟨m, s2, hD2, fm, pm, em⟩
      have em' : m.map (·.2) = ps.map fun i => (k.goes.map (·.2)).getD i 0 := by
        rw [em, ri_len]
        exact List.take_of_length_le (by rw [List.length_map]; exact Nat.le_refl _)
      have ml : m.length ≤ 6 := by
        have e := congrArg List.length em'
        rw [List.length_map, List.length_map] at e
        omega
      refine ⟨D, m, true, rfl, SqL.of hD2, fm, fun z hz => part_big (pm z hz), parts_add (mem_q pm) (by rw [List.length_map]; omega), fun z H3 s3 h3 => ?_⟩
      rw [em'] at h3
      exact q z H3 (s2.trans s3) h3

end
end KR
namespace KR
open PySem PySem.Spec PyProof.Rows L2
section
variable {P : Program} {w : World} {K : PySem.W.Frag} {mg : Str → Option Value} {base : Heap}
def sp_p__places_without_loss (K : PySem.W.Frag) : Sp := fun vs H Q _ => ∃ (kl : Addr) (ks : List Kn) (p : Bool), vs = [.ref kl] ∧ SqB K H kl (rk ks) p ∧ KnL K H ks.length ks ∧ ks.length ≤ 6 ∧
  ∀ (f : Addr) (P : Nat → Bool) (H' : Hp), Same H H' → H f = none → H' f = some (.lst (ri (psF P ks.length))) → Left (ks.map Kn.q) P → Great (ks.map Kn.q) P → Q (.ref f) H'
theorem ok_p__places_without_loss (T : All K mg) : FnOk P w K mg base CX0 5 T.f_p__places_without_loss T.fd_p__places_without_loss ["kinds"] (sp_p__places_without_loss K) := by
  refine T.d_p__places_without_loss.fn.ok sc_p__places_without_loss (fun vs H Q E h => ?_) (fun cdv A outer s H vs Q E hr h => ?_)
  · obtain ⟨kl, ks, p, rfl, _⟩ := h
    rfl
  · obtain ⟨kl, ks, p, rfl, hk, L, l6, q⟩ := h
    refine ⟨_, (pss_cons (ps_set (i := 1) sc_p__places_without_loss.nd rfl (by first | exact Or.inl rfl | exact Or.inr rfl) (pe_lc (own := [("place", 2), ("_", 3), ("drip", 4), ("_", 3)]) (g := gTup K 2 (gCons (gName 2) (gCons (gTup K 3 (gCons (gName 3) (gCons (gName 4) (gCons (gName 3) gNil)))) gNil))) (by rfl) sc_p__places_without_loss.nd (pi_enumB (K := K) rfl (by rfl) T.b_enumerate (pa_cons (pv 0) pa_nil)) (blkOk_by (own := [("place", 2), ("_", 3), ("drip", 4), ("_", 3)]) (N := ["kinds", "places", "place", "_", "drip", "left"]) (sc := defScope s_p__places_without_loss) (by decide +kernel)) (fun _ _ _ _ _ => (pg_tupK (K := K) rfl rfl (pgs_cons (pg_name (i := 2) sc_p__places_without_loss.nd rfl (by first | exact Or.inl rfl | exact Or.inr rfl)) (pgs_cons (pg_tupK (K := K) rfl rfl (pgs_cons (pg_name (i := 3) sc_p__places_without_loss.nd rfl (by first | exact Or.inl rfl | exact Or.inr rfl)) (pgs_cons (pg_name (i := 4) sc_p__places_without_loss.nd rfl (by first | exact Or.inl rfl | exact Or.inr rfl)) (pgs_cons (pg_name (i := 3) sc_p__places_without_loss.nd rfl (by first | exact Or.inl rfl | exact Or.inr rfl)) pgs_nil)))) pgs_nil)))) (fun _ _ _ _ _ => (pts_one (pt_cmpR (eqDK (K := K) rfl hr.units) (pv 4) (pe_glob (v := .ref T.C_ONE) rfl T.g_ONE rfl) (nomark _)))) (fun _ _ _ _ _ => (pv 2))))
      (pss_one (ps_while PassesOwn.never (pt_val pe_bl) (pss_cons (ps_setLc (i := 5) (own := [("place", 2)]) (g := gName 2) (by rfl) sc_p__places_without_loss.nd rfl rfl (sw_true rfl rfl rfl (by decide +kernel)) (pi_listK (K := K) rfl (pv 1)) (blkOk_by (own := [("place", 2)]) (N := ["kinds", "places", "place", "_", "drip", "left"]) (sc := defScope s_p__places_without_loss) (by decide +kernel)) (fun _ _ _ _ _ => (pg_name (i := 2) sc_p__places_without_loss.nd rfl (by first | exact Or.inl rfl | exact Or.inr rfl))) (fun _ _ _ _ _ => (pts_one (pt_cmpR (eqDK (K := K) rfl hr.units) (pe_call (ok_p__goes_in_all T) hr (by rfl) T.d_p__goes_in_all.mg T.d_p__goes_in_all.fn.kp T.d_p__goes_in_all.b .nil pass0 (pa_cons (pe_ix (ixQ (K := K) rfl) (pv 0) (pv 2) (fun _ _ => rfl)) (pa_cons (pv 1) pa_nil))) (pe_glob (v := .ref T.C_ONE) rfl T.g_ONE rfl) (nomark _)))) (fun _ _ _ _ _ => (pv 2)))
      (pss_cons (ps_if (pt_cmpR (eqDK (K := K) rfl hr.units) (pv 5) (pv 1) (nomark _)) (pss_one (ps_ret (pv 1))) pss_nil)
      (pss_one (ps_set (i := 1) sc_p__places_without_loss.nd rfl (by first | exact Or.inl rfl | exact Or.inr rfl) (pv 5)))))))), ?_⟩
    have O := L.ks l6
    have len : (ks.map Kn.q).length = ks.length := List.length_map _
    refine ⟨_, rfl, kl, rk ks, p, rfl, hk, fun D hD => ?_⟩
    refine lc_it (walk_enumB (K := K) (a := kl) (xs := rk ks) (p := p)) (fun j H' => Same H H' ∧ H' D = some (.lst (ri (psF (fun i => decide ((kd (ks.map Kn.q) i).drip = 1)) j))))
      ⟨same_new hD, upd_same⟩ (fun j H' _ z => hk.same z.1) ?_ ?_
    · rintro j v H2 H3 hj ⟨s2, hD2⟩ ⟨T0, x0, y0, rfl, hT, rfl, e0, ex⟩
      obtain rfl := Option.some.inj e0
      obtain ⟨k, ek, rfl⟩ := rk_get ex
      have sT : Same H2 (upd H2 T0 (.tup [.int (j : Nat), .ref k.a])) := same_new hT
      have hT3 : (upd H2 T0 (.tup [.int (j : Nat), .ref k.a])) T0 = some (.tup [.int (j : Nat), .ref k.a]) := upd_same
      generalize upd H2 T0 (.tup [.int (j : Nat), .ref k.a]) = H3 at sT hT3
      have s3 := s2.trans sT
      have KO := (L k (List.mem_of_getElem? ek)).same s3
      have hD3 := sT _ _ hD2
      have one : FrQ K H3 T.C_ONE 1 := T.q_ONE H3
      have vk := kn_kd ek
      refine ⟨T0, _, rfl, SqT.of hT3, rfl, _, _, rfl, _, _, rfl, k.a, _, rfl, KO.at_, rfl, _, _, rfl, _, _, rfl, _, _, rfl, rfl, rfl, rfl, ?_⟩
      refine ⟨_, rfl, _, _, KO.dr.dp, one.dp, rfl, rfl, _, rfl, ?_⟩
      rw [one_eqv]
      by_cases c : k.drip = 1
      · refine ite_bT (decide_eq_true c) ?_
        refine ⟨_, rfl, _, hD3, by rw [ri_len]; have := psF_le (fun i => decide ((kd (ks.map Kn.q) i).drip = 1)) j; exact small' (by rw [rk_len] at hj; omega), Same.put s3 hD, ?_⟩
        rw [upd_same, psF_step, if_pos (by rw [vk]; exact decide_eq_true c), ri_snoc]
      · refine ite_bF (decide_eq_false c) ⟨s3, ?_⟩
        rw [hD3, psF_step, if_neg (by rw [vk, decide_eq_false (show ¬ k.q.drip = 1 from c)]; decide)]
    · rintro H4 ⟨s4, hD4⟩
      rw [rk_len] at hD4
      refine ⟨fun m σ H' => ∃ (P : Nat → Bool) (f : Addr) (v2 v3 v4 v5 : Option V), σ = [some (.ref kl), some (.ref f), v2, v3, v4, v5] ∧ Same H H' ∧ H f = none ∧ H' f = some (.lst (ri (psF P ks.length))) ∧ Left (ks.map Kn.q) P ∧ m = (psF P ks.length).length, ⟨_, _, D, _, _, _, _, rfl, s4, hD, hD4, Left.first O, rfl⟩, ?_⟩
      rintro m σ H' ⟨P, f, v2, v3, v4, v5, rfl, s5, nf, hf, LP, rfl⟩
      refine ⟨true, rfl, iteT ?_⟩
      refine ⟨fun σ' H1 => ∃ (P' : Nat → Bool) (f : Addr) (v2 v3 v4 v5 : Option V), σ' = [some (.ref kl), some (.ref f), v2, v3, v4, v5] ∧ Same H H1 ∧ H f = none ∧ H1 f = some (.lst (ri (psF P' ks.length))) ∧ Left (ks.map Kn.q) P' ∧ (psF P' ks.length).length < (psF P ks.length).length, fun σ' H1 ⟨P', f, v2, v3, v4, v5, e1, e2, e3, e4, e5, e6⟩ => ⟨_, e6, P', f, v2, v3, v4, v5, e1, e2, e3, e4, e5, rfl⟩, ?_⟩
      refine ⟨_, rfl, f, rfl, ⟨_, SqL.of hf⟩, fun D2 hD2 => ?_⟩
      have pl := psF_le P ks.length
      refine lc_it (walk_list (K := K) (a := f) (xs := ri (psF P ks.length))) (fun j H1 => Same H' H1 ∧ H1 D2 = some (.lst (ri (((psF P ks.length).take j).filter fun i => decide (allTo (ks.map Kn.q) P i = 1)))))
        ⟨same_new hD2, upd_same⟩ (fun j H1 _ z => SqL.of (z.1 _ _ hf)) ?_ ?_
      · rintro j v H1 H2 hj ⟨s6, hD6⟩ ⟨rfl, hv⟩
        obtain ⟨i, ei, rfl⟩ := ri_get hv
        have il : i < ks.length := (psF_mem.mp (List.mem_of_getElem? ei)).1
        have ek : ks[i]? = some ks[i] := List.getElem?_eq_getElem il
        generalize ks[i] = k at ek
        have KO := (L k (List.mem_of_getElem? ek)).same (s5.trans s6)
        have hk6 := hk.same (s5.trans s6)
        refine ⟨rfl, ?_⟩
        refine ⟨_, rfl, _, rfl, ix_seqB hk6 (rk_at ek) ⟨_, rfl, f, k, ks.length, psF P ks.length, rfl, KO, SqL.of (s6 _ _ hf), fun i hi => (psF_mem.mp hi).1, l6, by omega, fun z H7 s7 h7 => ?_⟩⟩
        have one : FrQ K H7 T.C_ONE 1 := T.q_ONE H7
        refine ⟨_, _, h7.dp, one.dp, rfl, rfl, _, rfl, ?_⟩
        rw [one_eqv]
        have ea : zsum ((psF P ks.length).map fun i => (k.goes.map (·.2)).getD i 0) = allTo (ks.map Kn.q) P i := by
          unfold allTo
          rw [kn_kd ek, len] <;> rfl
        rw [ea]
        have hD7 := s7 _ _ hD6
        have fl : (((psF P ks.length).take j).filter fun i => decide (allTo (ks.map Kn.q) P i = 1)).length ≤ 6 := by
          have k1 := List.length_filter_le (fun i => decide (allTo (ks.map Kn.q) P i = 1)) ((psF P ks.length).take j)
          rw [List.length_take] at k1
          omega
        by_cases c : allTo (ks.map Kn.q) P i = 1
        · refine ite_bT (decide_eq_true c) ?_
          refine ⟨_, rfl, _, hD7, by rw [ri_len]; exact small' (by omega), Same.put (s6.trans s7) hD2, ?_⟩
          rw [upd_same, take_filter ei, if_pos (decide_eq_true c), ri_snoc]
        · refine ite_bF (decide_eq_false c) ⟨s6.trans s7, ?_⟩
          rw [hD7, take_filter ei, if_neg (by rw [decide_eq_false c]; decide)]
      · rintro H1 ⟨s6, hD6⟩
        have e0 : (psF P ks.length).take (ri (psF P ks.length)).length = psF P ks.length := List.take_of_length_le (by rw [ri_len]; exact Nat.le_refl _)
        have e1 : ((psF P ks.length).filter fun i => decide (allTo (ks.map Kn.q) P i = 1)) = psF (nextP (ks.map Kn.q) P) ks.length := psF_filter _ _ _
        rw [e0, e1] at hD6
        have s16 := s5.trans s6
        have hf6 := s6 _ _ hf
        refine ⟨_, rfl, _, rfl, _, _, ri_dp (SqL.of hD6), ri_dp (SqL.of hf6), dpi_shaped _, dpi_shaped _, _, rfl, ?_⟩
        rw [dpi_eqv]
        have sub := psF_len (P := nextP (ks.map Kn.q) P) (Q := P) (n := ks.length) fun i _ h => by
          unfold nextP at h
          exact (Bool.and_eq_true _ _ ▸ h).1
        by_cases c : psF (nextP (ks.map Kn.q) P) ks.length = psF P ks.length
        · refine ite_bT (decide_eq_true c) ⟨_, rfl, q f P H1 s16 nf hf6 LP (LP.end_ O fun i hi hp => ?_)⟩
          rw [len] at hi
          have k := sub.2 (congrArg List.length c) i hi
          unfold nextP at k
          rw [hp, Bool.true_and] at k
          exact of_decide_eq_true k
        · refine ite_bF (decide_eq_false c) ?_
          refine ⟨_, rfl, _, D2, _, _, _, _, rfl, s16, same_none s5 hD2, hD6, LP.next O, ?_⟩
          rcases Nat.lt_or_ge (psF (nextP (ks.map Kn.q) P) ks.length).length (psF P ks.length).length with lt | ge
          · exact lt
          · exact absurd (psF_ext (sub.2 (Nat.le_antisymm sub.1 ge))) c

end
end KR
namespace KR
open PySem PySem.Spec PyProof.Rows L2
section
variable {P : Program} {w : World} {K : PySem.W.Frag} {mg : Str → Option Value} {base : Heap}
def sp_p__row_of (K : PySem.W.Frag) : Sp := fun vs H Q _ => ∃ (kl : Addr) (ks : List Kn) (i : Nat) (p : Bool), vs = [.ref kl, .int (i : Int)] ∧ SqB K H kl (rk ks) p ∧ KnL K H ks.length ks ∧ i < ks.length ∧ ks.length ≤ 6 ∧
  ∀ (f : Addr) (l : List Fz) (H' : Hp), Same H H' → H f = none → H' f = some (.lst (rz l)) → FL K H' l → RowL ks.length (initA (ks.map Kn.q) i) l → Q (.ref f) H'
theorem ok_p__row_of (T : All K mg) : FnOk P w K mg base CX0 3 T.f_p__row_of T.fd_p__row_of ["kinds", "place"] (sp_p__row_of K) := by
  refine T.d_p__row_of.fn.ok sc_p__row_of (fun vs H Q E h => ?_) (fun cdv A outer s H vs Q E hr h => ?_)
  · obtain ⟨kl, ks, i, p, rfl, _⟩ := h
    rfl
  · obtain ⟨kl, ks, i, p, rfl, hk, L, il, l6, q⟩ := h
    refine ⟨_, (pss_cons (ps_setLc (i := 2) (own := [("_", 3), ("drip", 4), ("goes", 5)]) (g := gTup K 3 (gCons (gName 3) (gCons (gName 4) (gCons (gName 5) gNil)))) (tt := tYes) (by rfl) sc_p__row_of.nd rfl rfl (sw_true rfl rfl rfl (by decide +kernel)) (pi_seqU (K := K) rfl (pv 0)) (blkOk_by (own := [("_", 3), ("drip", 4), ("goes", 5)]) (N := ["kinds", "place", "parts", "_", "drip", "goes"]) (sc := defScope s_p__row_of) (by decide +kernel)) (fun _ _ _ _ _ => (pg_tupK (K := K) rfl rfl (pgs_cons (pg_name (i := 3) sc_p__row_of.nd rfl (by first | exact Or.inl rfl | exact Or.inr rfl)) (pgs_cons (pg_name (i := 4) sc_p__row_of.nd rfl (by first | exact Or.inl rfl | exact Or.inr rfl)) (pgs_cons (pg_name (i := 5) sc_p__row_of.nd rfl (by first | exact Or.inl rfl | exact Or.inr rfl)) pgs_nil))))) (fun _ _ _ _ _ => pts_nil) (fun _ _ _ _ _ => (pe_call (ok_p_product T) hr (by rfl) T.d_p_product.mg T.d_p_product.fn.kp T.d_p_product.b .nil pass0 (pa_cons (pv 4) (pa_cons (pe_ix (ixT (K := K) rfl) (pv 5) (pv 1) (fun _ _ => rfl)) pa_nil)))))
      (pss_one (ps_ret (pe_op op_catI (pv 2) (pe_lstI (pa_cons (pe_tupI (pa_cons (pe_ix (ixT (K := K) rfl) (pe_ix (ixQ (K := K) rfl) (pv 0) (pv 1) (fun _ _ => rfl)) pe_int (fun _ _ => rfl)) (pa_cons pe_int pa_nil))) pa_nil)))))), ?_⟩
    have len : (ks.map Kn.q).length = ks.length := List.length_map _
    refine ⟨_, rfl, kl, _, p, rfl, hk, fun D hD => ?_⟩
    refine lc_it (walk_seqU (K := K) (a := kl) (xs := rk ks) (p := p)) (fun j H' => ∃ m : List Fz, Same H H' ∧ H' D = some (.lst (rz m)) ∧ FL K H' m ∧ m.length = j ∧ PreL (initA (ks.map Kn.q) i) m)
      ⟨[], same_new hD, upd_same, .nil, rfl, .nil⟩ (fun j H' _ ⟨m, s, _⟩ => hk.same s) ?_ ?_
    · rintro j v H2 H3 hj ⟨m, s2, hD2, fm, lm, pm⟩ ⟨rfl, hv⟩
      obtain ⟨kj, ekj, rfl⟩ := rk_get hv
      have KO := (L kj (List.mem_of_getElem? ekj)).same s2
      rw [rk_len] at hj
      have gi : i < kj.goes.length := by rw [KO.go.len]; exact il
      have gg : kj.goes[i]? = some kj.goes[i] := List.getElem?_eq_getElem gi
      generalize kj.goes[i] = zg at gg
      have mg' := List.mem_of_getElem? gg
      refine ⟨kj.a, _, rfl, KO.at_, rfl, _, _, rfl, _, _, rfl, _, _, rfl, rfl, rfl, yesT ?_⟩
      refine ⟨_, rfl, _, rfl, _, rfl, kj.g, _, (i : Int), _, rfl, rfl, KO.gs, at_of rfl (rz_at gg), kj.d, zg.1, kj.drip, zg.2, rfl, KO.dr, KO.go.fl zg mg', part_big KO.pd, part_big (KO.go.pa zg mg'), trivial, fun z2 H7 s7 n7 h7 => ?_⟩
      have hD7 := s7 _ _ hD2
      refine ⟨_, hD7, by rw [rz_len]; exact small' (by omega), m ++ [(z2, kj.drip * zg.2)], Same.put (s2.trans s7) hD, by rw [upd_same, rz_snoc], FL.put (FL.snoc (fm.same s7) h7) hD7, snoc_len lm, pm.snoc ?_⟩
      rw [lm]
      unfold initA
      rw [if_pos (by rw [len]; exact hj), kn_kd ekj]
      show kj.drip * zg.2 = kj.drip * (kj.goes.map (·.2)).getD i 0
      rw [List.getD_eq_getElem?_getD, rz_q gg] <;> rfl
    · rintro H4 ⟨m, s4, hD4, fm, lm, pm⟩
      rw [rk_len] at lm
      have ei : ks[i]? = some ks[i] := List.getElem?_eq_getElem il
      generalize ks[i] = ki at ei
      have KO := (L ki (List.mem_of_getElem? ei)).same s4
      refine ⟨_, rfl, _, rfl, _, rfl, ix_seqB (hk.same s4) (rk_at ei) ⟨ki.a, _, 0, _, rfl, rfl, KO.at_, at0, rfl, fun t H5 s5 n5 h5 => ⟨rfl, fun u H6 s6 n6 h6 => ?_⟩⟩⟩
      have s56 := s5.trans s6
      refine ⟨D, u, _, _, rfl, rfl, s56 _ _ hD4, h6, by rw [rz_len, sizeLine_eq]; show _ + 1 ≤ _; omega, fun f H7 s7 n7 h7 => ?_⟩
      have ft : FrQ K H5 t ((ki.fresh : Int) : Rat) := FrQ.int h5
      have s47 := s56.trans s7
      refine q f (m ++ [(t, ((ki.fresh : Int) : Rat))]) H7 (s4.trans s47) (same_none (s4.trans s56) n7) (by rw [h7, rz_snoc]) (FL.snoc (fm.same s47) (ft.same (s6.trans s7))) (RowL.of (snoc_len lm) (pm.snoc ?_))
      rw [lm, ← len]
      unfold initA
      rw [if_neg (Nat.lt_irrefl _), kn_kd ei] <;> rfl

end
end KR
namespace KR
open PySem PySem.Spec PyProof.Rows L2
section
variable {P : Program} {w : World} {K : PySem.W.Frag} {mg : Str → Option Value} {base : Heap}
def sp_p__freed_of_itself (K : PySem.W.Frag) : Sp := fun vs H Q _ => ∃ (rl : Addr) (l : List Fz) (n k : Nat) (A : Nat → Nat → Rat), vs = [.ref rl, .int (k : Int)] ∧ SqL K H rl (rz l) ∧ FL K H l ∧ RowL n (A k) l ∧ k < n ∧ n ≤ 6 ∧ StepOk n k A ∧
  ∀ (f : Addr) (m : List Fz) (H' : Hp), Same H H' → H f = none → H' f = some (.lst (rz m)) → FL K H' m → RowL n (freedR k (A k)) m → Q (.ref f) H'
theorem ok_p__freed_of_itself (T : All K mg) : FnOk P w K mg base CX0 3 T.f_p__freed_of_itself T.fd_p__freed_of_itself ["row", "place"] (sp_p__freed_of_itself K) := by
  refine T.d_p__freed_of_itself.fn.ok sc_p__freed_of_itself (fun vs H Q E h => ?_) (fun cdv A outer s H vs Q E hr h => ?_)
  · obtain ⟨rl, l, n, k, A, rfl, _⟩ := h
    rfl
  · obtain ⟨rl, l, n, k, A, rfl, hl, fl, ro, kn, n6, ok, q⟩ := h
    refine ⟨_, (pss_cons (ps_set (i := 2) sc_p__freed_of_itself.nd rfl (by first | exact Or.inl rfl | exact Or.inr rfl) (pe_call (ok_p_difference T) hr (by rfl) T.d_p_difference.mg T.d_p_difference.fn.kp T.d_p_difference.b .nil pass0 (pa_cons (pe_glob (v := .ref T.C_ONE) rfl T.g_ONE rfl) (pa_cons (pe_ix (ixL (K := K) rfl) (pv 0) (pv 1) (fun _ _ => rfl)) pa_nil))))
      (pss_cons (ps_setLc (i := 3) (own := [("part", 4)]) (g := gName 4) (tt := tYes) (by rfl) sc_p__freed_of_itself.nd rfl rfl (sw_true rfl rfl rfl (by decide +kernel)) (pi_listK (K := K) rfl (pv 0)) (blkOk_by (own := [("part", 4)]) (N := ["row", "place", "lost", "freed", "part"]) (sc := defScope s_p__freed_of_itself) (by decide +kernel)) (fun _ _ _ _ _ => (pg_name (i := 4) sc_p__freed_of_itself.nd rfl (by first | exact Or.inl rfl | exact Or.inr rfl))) (fun _ _ _ _ _ => pts_nil) (fun _ _ _ _ _ => (pe_call (ok_p_quotient T) hr (by rfl) T.d_p_quotient.mg T.d_p_quotient.fn.kp T.d_p_quotient.b .nil pass0 (pa_cons (pv 4) (pa_cons (pv 2) pa_nil)))))
      (pss_cons (ps_asg (pe_glob (v := .ref T.C_NOUGHT) rfl T.g_NOUGHT rfl) (pg_sub (pv 3) (pv 1) set_list))
      (pss_one (ps_ret (pv 3)))))), ?_⟩
    obtain ⟨zk, ek, vk⟩ := ro.at_ (show k < n + 1 by omega)
    have one : FrQ K H T.C_ONE 1 := T.q_ONE H
    refine ⟨_, rfl, _, rfl, rl, _, (k : Int), _, rfl, rfl, hl, at_of rfl (rz_at ek), T.C_ONE, zk.1, 1, zk.2, rfl, one, fl zk (List.mem_of_getElem? ek), ⟨by decide, by decide⟩, by rw [vk]; exact ok.a k k kn (by omega), trivial, fun lo H1 s1 n1 h1 => ?_⟩
    rw [vk] at h1
    refine ⟨_, rfl, rl, rfl, ⟨_, s1.seq hl⟩, fun D hD => ?_⟩
    refine lc_it (walk_list (K := K) (a := rl) (xs := rz l)) (fun j H' => ∃ m : List Fz, Same H1 H' ∧ H' D = some (.lst (rz m)) ∧ FL K H' m ∧ m.length = j ∧ PreL (fun j => A k j / (1 - A k k)) m)
      ⟨[], same_new hD, upd_same, .nil, rfl, .nil⟩ (fun j H' _ ⟨m, s, _⟩ => (s1.trans s).seq hl) ?_ ?_
    · rintro j v H2 H3 hj ⟨m, s2, hD2, fm, lm, pm⟩ ⟨rfl, hv⟩
      obtain ⟨zj, ej, rfl⟩ := rz_get hv
      obtain ⟨vj, jn⟩ := ro.get ej
      have fz := (fl zj (List.mem_of_getElem? ej)).same (s1.trans s2)
      refine ⟨rfl, yesT ?_⟩
      refine ⟨_, rfl, _, rfl, zj.1, lo, zj.2, _, rfl, fz, h1.same s2, by rw [vj]; exact ok.a k j kn (by omega), ok.l, ok.ne, fun z2 H7 s7 n7 h7 => ?_⟩
      have hD7 := s7 _ _ hD2
      refine ⟨_, hD7, by rw [rz_len]; exact small' (by omega), m ++ [(z2, zj.2 / (1 - A k k))], Same.put (s2.trans s7) hD, by rw [upd_same, rz_snoc], FL.put (FL.snoc (fm.same s7) h7) hD7, snoc_len lm, pm.snoc (by rw [lm, vj])⟩
    · rintro H4 ⟨m, s4, hD4, fm, lm, pm⟩
      rw [rz_len, ro.len] at lm
      have nought : FrQ K H4 T.C_NOUGHT 0 := T.q_NOUGHT H4
      refine ⟨_, rfl, _, rfl, D, _, (k : Int), k, rfl, rfl, hD4, ixN_nat (by rw [rz_len]; omega), ?_⟩
      rw [rz_set m k (T.C_NOUGHT, 0)]
      refine ⟨_, rfl, q D (m.set k (T.C_NOUGHT, 0)) _ (s1.trans (Same.put s4 hD)) (same_none s1 hD) upd_same (FL.put (fun z hz => ?_) hD4) (RowL.of (by rw [List.length_set]; exact lm) (PreL.set (fun j y ne g => ?_) ?_))⟩
      · rcases mem_set hz with h | h
        · exact fm z h
        · rw [h]
          exact nought
      · unfold freedR
        rw [if_neg ne]
        exact pm j y g
      · unfold freedR
        rw [if_pos rfl]

end
end KR
namespace KR
open PySem PySem.Spec PyProof.Rows L2
section
variable {P : Program} {w : World} {K : PySem.W.Frag} {mg : Str → Option Value} {base : Heap}
def sp_p__put_into (K : PySem.W.Frag) : Sp := fun vs H Q _ => ∃ (rl fl : Addr) (l fr : List Fz) (n k i : Nat) (A : Nat → Nat → Rat), vs = [.ref rl, .int (k : Int), .ref fl] ∧ SqL K H rl (rz l) ∧ FL K H l ∧ RowL n (A i) l ∧ SqL K H fl (rz fr) ∧ FL K H fr ∧ RowL n (freedR k (A k)) fr ∧ k < n ∧ i < n ∧ i ≠ k ∧ n ≤ 6 ∧ StepOk n k A ∧
  ∀ (f : Addr) (m : List Fz) (H' : Hp), Same H H' → H f = none → H' f = some (.lst (rz m)) → FL K H' m → RowL n (stepA k A i) m → Q (.ref f) H'
theorem ok_p__put_into (T : All K mg) : FnOk P w K mg base CX0 3 T.f_p__put_into T.fd_p__put_into ["row", "place", "freed"] (sp_p__put_into K) := by
  refine T.d_p__put_into.fn.ok sc_p__put_into (fun vs H Q E h => ?_) (fun cdv A outer s H vs Q E hr h => ?_)
  · obtain ⟨rl, fl, l, fr, n, k, i, A, rfl, _⟩ := h
    rfl
  · obtain ⟨rl, fl, l, fr, n, k, i, A, rfl, hl, ll, ro, hf, lf, rf, kn, lin, ne, n6, ok, q⟩ := h
    refine ⟨_, (pss_cons (ps_set (i := 3) sc_p__put_into.nd rfl (by first | exact Or.inl rfl | exact Or.inr rfl) (pe_ix (ixL (K := K) rfl) (pv 0) (pv 1) (fun _ _ => rfl)))
      (pss_cons (ps_setLc (i := 4) (own := [("part", 5), ("more", 6)]) (g := gTup K 2 (gCons (gName 5) (gCons (gName 6) gNil))) (tt := tYes) (by rfl) sc_p__put_into.nd rfl rfl (sw_true rfl rfl rfl (by decide +kernel)) (pi_zipB (K := K) rfl (by rfl) T.b_zip (pa_cons (pv 0) (pa_cons (pv 2) pa_nil))) (blkOk_by (own := [("part", 5), ("more", 6)]) (N := ["row", "place", "freed", "many", "put", "part", "more"]) (sc := defScope s_p__put_into) (by decide +kernel)) (fun _ _ _ _ _ => (pg_tupK (K := K) rfl rfl (pgs_cons (pg_name (i := 5) sc_p__put_into.nd rfl (by first | exact Or.inl rfl | exact Or.inr rfl)) (pgs_cons (pg_name (i := 6) sc_p__put_into.nd rfl (by first | exact Or.inl rfl | exact Or.inr rfl)) pgs_nil)))) (fun _ _ _ _ _ => pts_nil) (fun _ _ _ _ _ => (pe_call (ok_p_sum_of T) hr (by rfl) T.d_p_sum_of.mg T.d_p_sum_of.fn.kp T.d_p_sum_of.b .nil pass0 (pa_cons (pv 5) (pa_cons (pe_call (ok_p_product T) hr (by rfl) T.d_p_product.mg T.d_p_product.fn.kp T.d_p_product.b .nil pass0 (pa_cons (pv 3) (pa_cons (pv 6) pa_nil))) pa_nil)))))
      (pss_cons (ps_asg (pe_glob (v := .ref T.C_NOUGHT) rfl T.g_NOUGHT rfl) (pg_sub (pv 4) (pv 1) set_list))
      (pss_one (ps_ret (pv 4)))))), ?_⟩
    obtain ⟨zk, ek, vk⟩ := ro.at_ (show k < n + 1 by omega)
    refine ⟨_, rfl, _, rfl, rl, _, (k : Int), _, rfl, rfl, hl, at_of rfl (rz_at ek), ?_⟩
    refine ⟨_, rfl, _, rfl, rl, fl, rz l, rz fr, true, true, rfl, hl, hf, fun D hD => ?_⟩
    refine lc_it (walk_zipB (K := K) (a := rl) (b := fl) (xs := rz l) (ys := rz fr) (p := true) (q := true) (n := n + 1) ((rz_len l).trans ro.len) ((rz_len fr).trans rf.len)) (fun j H' => ∃ m : List Fz, Same H H' ∧ H' D = some (.lst (rz m)) ∧ FL K H' m ∧ m.length = j ∧ PreL (fun j => A i j + A i k * freedR k (A k) j) m)
      ⟨[], same_new hD, upd_same, .nil, rfl, .nil⟩ (fun j H' _ ⟨m, s, _⟩ => ⟨s.seq hl, s.seq hf⟩) ?_ ?_
    · rintro j v H2 H3 hj ⟨m, s2, hD2, fm, lm, pm⟩ ⟨U, x1, y1, rfl, hU, rfl, gx, gy⟩
      obtain ⟨zj, ej, rfl⟩ := rz_get gx
      obtain ⟨wj, fj, rfl⟩ := rz_get gy
      obtain ⟨vj, jn⟩ := ro.get ej
      obtain ⟨uj, _⟩ := rf.get fj
      have sU : Same H2 (upd H2 U (.tup [.ref zj.1, .ref wj.1])) := same_new hU
      have hU3 : (upd H2 U (.tup [.ref zj.1, .ref wj.1])) U = some (.tup [.ref zj.1, .ref wj.1]) := upd_same
      generalize upd H2 U (.tup [.ref zj.1, .ref wj.1]) = H3 at sU hU3
      have s3 := s2.trans sU
      have f1 := (ll zj (List.mem_of_getElem? ej)).same s3
      have f2 := (lf wj (List.mem_of_getElem? fj)).same s3
      have f3 := (ll zk (List.mem_of_getElem? ek)).same s3
      rw [vj] at f1
      rw [uj] at f2
      rw [vk] at f3
      refine ⟨U, _, rfl, SqT.of hU3, rfl, _, _, rfl, _, _, rfl, rfl, rfl, yesT ?_⟩
      refine ⟨_, rfl, _, rfl, _, rfl, zk.1, wj.1, _, _, rfl, f3, f2, ok.a i k lin (by omega), ok.fr j (by omega), trivial, fun z1 H4 s4 n4 h4 => ?_⟩
      refine ⟨zj.1, z1, _, _, rfl, f1.same s4, h4, ok.a i j lin (by omega), ok.mu i j lin (by omega), trivial, fun z2 H7 s7 n7 h7 => ?_⟩
      have s27 := sU.trans (s4.trans s7)
      have hD7 := s27 _ _ hD2
      refine ⟨_, hD7, by rw [rz_len]; exact small' (by omega), m ++ [(z2, A i j + A i k * freedR k (A k) j)], Same.put (s2.trans s27) hD, by rw [upd_same, rz_snoc], FL.put (FL.snoc (fm.same s27) h7) hD7, snoc_len lm, pm.snoc (by rw [lm])⟩
    · rintro H4 ⟨m, s4, hD4, fm, lm, pm⟩
      have nought : FrQ K H4 T.C_NOUGHT 0 := T.q_NOUGHT H4
      refine ⟨_, rfl, _, rfl, D, _, (k : Int), k, rfl, rfl, hD4, ixN_nat (by rw [rz_len]; omega), ?_⟩
      rw [rz_set m k (T.C_NOUGHT, 0)]
      refine ⟨_, rfl, q D (m.set k (T.C_NOUGHT, 0)) _ (Same.put s4 hD) hD upd_same (FL.put (fun z hz => ?_) hD4) (RowL.of (by rw [List.length_set]; exact lm) (PreL.set (fun j y nej g => ?_) ?_))⟩
      · rcases mem_set hz with h | h
        · exact fm z h
        · rw [h]
          exact nought
      · unfold stepA
        rw [if_neg ne, if_neg nej]
        exact pm j y g
      · unfold stepA
        rw [if_neg ne, if_pos rfl]

end
end KR
namespace KR
open PySem PySem.Spec PyProof.Rows L2
section
variable {P : Program} {w : World} {K : PySem.W.Frag} {mg : Str → Option Value} {base : Heap}
def sp_p_steady_state (K : PySem.W.Frag) (C : Addr) : Sp := fun vs H Q E => ∃ (kl : Addr) (ks : List Kn) (p : Bool) (P0 : Nat → Bool), vs = [.ref kl] ∧ SqB K H kl (rk ks) p ∧ KnL K H ks.length ks ∧ 1 ≤ ks.length ∧ ks.length ≤ 6 ∧ Great (ks.map Kn.q) P0 ∧
  (psF P0 ks.length ≠ [] → ∀ (d tl : Addr) (H' : Hp), Same H H' → H' d = some (.xd (wh "NoSteady" (.ref tl))) → H' tl = some (.tup (ri (psF P0 ks.length))) → E (.ref C) (some d) H') ∧
  (psF P0 ks.length = [] → ∀ (f : Addr) (l : List Fz) (H' : Hp), Same H H' → H f = none → H' f = some (.lst (rz l)) → FL K H' l → l.map (·.2) = solQ (ks.map Kn.q) → (∃ y, Sta 6000000 ks.length 0 ks.length (initA (ks.map Kn.q)) y) → Q (.ref f) H')
theorem ok_p_steady_state (T : All K mg) : FnOk P w K mg base (L2.CX P w) 6 T.f_p_steady_state T.fd_p_steady_state ["kinds"] (sp_p_steady_state K T.C_NoSteady) := by
  refine T.d_p_steady_state.fn.okX sc_p_steady_state (fun vs H Q E h => ?_) (fun cdv A outer s H vs Q E hr h => ?_)
  · obtain ⟨kl, ks, p, P0, rfl, _⟩ := h
    rfl
  · obtain ⟨kl, ks, p, P0, rfl, hk, L, l1, l6, G0, qE, q⟩ := h
    refine ⟨_, (pss_cons (ps_set (i := 1) sc_p_steady_state.nd rfl (by first | exact Or.inl rfl | exact Or.inr rfl) (pe_call (ok_p__places_without_loss T) hr (by rfl) T.d_p__places_without_loss.mg T.d_p__places_without_loss.fn.kp T.d_p__places_without_loss.b .nil pass0 (pa_cons (pv 0) pa_nil)))
      (pss_cons (ps_if (pt_truth (pv 1) (by intro _; rfl)) (pss_one (ps_raise rfl (takes_of rfl rfl rfl rfl) (pmk_oex T.O_NoSteady T.i_NoSteady T.tI_NoSteady (ok_init_NoSteady T) (hr.mono (by decide)) T.bI_NoSteady .nil pass0 rfl T.g_NoSteady (by exact (pa_cons (pe_callTy call_tuple_of (by rfl) T.b_tuple (by decide +kernel) (pa_cons (pv 1) pa_nil)) pa_nil))))) pss_nil)
      (pss_cons (ps_set (i := 2) sc_p_steady_state.nd rfl (by first | exact Or.inl rfl | exact Or.inr rfl) (pe_lc (own := [("place", 3)]) (g := gName 3) (tt := tYes) (by rfl) sc_p_steady_state.nd (pi_range1 (by rfl) T.b_range (pa_cons (pe_callB (lenA (K := K) rfl) (by rfl) T.b_len PySem.boot_len (pa_cons (pv 0) pa_nil)) pa_nil)) (blkOk_by (own := [("place", 3)]) (N := ["kinds", "lossless", "rows", "place", "at", "row"]) (sc := defScope s_p_steady_state) (by decide +kernel)) (fun _ _ _ _ _ => (pg_name (i := 3) sc_p_steady_state.nd rfl (by first | exact Or.inl rfl | exact Or.inr rfl))) (fun _ _ _ _ _ => pts_nil) (fun _ _ _ _ _ => (pe_call (ok_p__row_of T) (hr.mono (by decide)) (by rfl) T.d_p__row_of.mg T.d_p__row_of.fn.kp T.d_p__row_of.b .nil pass0 (pa_cons (pv 0) (pa_cons (pv 3) pa_nil))))))
      (pss_cons (ps_for PassesOwn.leaving rfl (pi_range1 (by rfl) T.b_range (pa_cons (pe_callB (lenA (K := K) rfl) (by rfl) T.b_len PySem.boot_len (pa_cons (pv 0) pa_nil)) pa_nil)) (pg_name (i := 3) sc_p_steady_state.nd rfl (by first | exact Or.inl rfl | exact Or.inr rfl)) (pss_cons (ps_asg (pe_call (ok_p__freed_of_itself T) (hr.mono (by decide)) (by rfl) T.d_p__freed_of_itself.mg T.d_p__freed_of_itself.fn.kp T.d_p__freed_of_itself.b .nil pass0 (pa_cons (pe_ix (ixL (K := K) rfl) (pv 2) (pv 3) (fun _ _ => rfl)) (pa_cons (pv 3) pa_nil))) (pg_sub (pv 2) (pv 3) set_list))
      (pss_one (ps_set (i := 2) sc_p_steady_state.nd rfl (by first | exact Or.inl rfl | exact Or.inr rfl) (pe_lc (own := [("at", 4), ("row", 5)]) (g := gTup K 2 (gCons (gName 4) (gCons (gName 5) gNil))) (tt := tYes) (by rfl) sc_p_steady_state.nd (pi_enumB (K := K) rfl (by rfl) T.b_enumerate (pa_cons (pv 2) pa_nil)) (blkOk_by (own := [("at", 4), ("row", 5)]) (N := ["kinds", "lossless", "rows", "place", "at", "row"]) (sc := defScope s_p_steady_state) (by decide +kernel)) (fun _ _ _ _ _ => (pg_tupK (K := K) rfl rfl (pgs_cons (pg_name (i := 4) sc_p_steady_state.nd rfl (by first | exact Or.inl rfl | exact Or.inr rfl)) (pgs_cons (pg_name (i := 5) sc_p_steady_state.nd rfl (by first | exact Or.inl rfl | exact Or.inr rfl)) pgs_nil)))) (fun _ _ _ _ _ => pts_nil) (fun _ _ _ _ _ => (pe_ifExp (pt_cmpR op_eq (pv 4) (pv 3) (nomark _)) (pv 5) (pe_call (ok_p__put_into T) (hr.mono (by decide)) (by rfl) T.d_p__put_into.mg T.d_p__put_into.fn.kp T.d_p__put_into.b .nil pass0 (pa_cons (pv 5) (pa_cons (pv 3) (pa_cons (pe_ix (ixL (K := K) rfl) (pv 2) (pv 3) (fun _ _ => rfl)) pa_nil)))))))))))
      (pss_one (ps_ret (pe_lc (own := [("row", 5)]) (g := gName 5) (tt := tYes) (by rfl) sc_p_steady_state.nd (pi_listK (K := K) rfl (pv 2)) (blkOk_by (own := [("row", 5)]) (N := ["kinds", "lossless", "rows", "place", "at", "row"]) (sc := defScope s_p_steady_state) (by decide +kernel)) (fun _ _ _ _ _ => (pg_name (i := 5) sc_p_steady_state.nd rfl (by first | exact Or.inl rfl | exact Or.inr rfl))) (fun _ _ _ _ _ => pts_nil) (fun _ _ _ _ _ => (pe_ix (ixL (K := K) rfl) (pv 5) (pe_un un_neg pe_int) (fun _ _ => rfl)))))))))), ?_⟩
    have O := L.ks l6
    have len : (ks.map Kn.q).length = ks.length := List.length_map _
    refine ⟨_, rfl, kl, ks, p, rfl, hk, L, l6, fun lo P H1 s1 n1 h1 LP GP => ?_⟩
    have pe : psF P ks.length = psF P0 ks.length := by
      have e := GP.one G0
      rw [len] at e
      exact e
    by_cases pn : psF P ks.length = []
    case neg =>
      refine ⟨_, rfl, true, .inl ⟨_, SqL.of h1, ?_⟩, iteT ?_⟩
      · cases e : psF P ks.length with
        | nil => exact absurd e pn
        | cons _ _ => rfl
      refine ⟨_, rfl, lo, _, rfl, .inl ⟨SqL.of h1, fun tl ntl => ?_⟩⟩
      have sa : Same H1 (upd H1 tl (.tup (ri (psF P ks.length)))) := same_new ntl
      have htl : (upd H1 tl (.tup (ri (psF P ks.length)))) tl = some (.tup (ri (psF P ks.length))) := upd_same
      generalize upd H1 tl (.tup (ri (psF P ks.length))) = H2 at sa htl
      refine ⟨by show 1 ≤ 1000; decide, fun a ha => ⟨a, .ref tl, rfl, upd_same, fun d hd hne => ?_⟩⟩
      rw [upd_ne hne] at hd
      refine ⟨rfl, d, (wh "NoSteady" (.ref tl)), upd_same, by rw [upd_ne hne, upd_same], hd, ?_⟩
      refine qE (by rw [← pe]; exact pn) d tl _ (s1.trans (sa.trans ?_)) upd_same ?_
      · exact raised_keeps ha hd
      · rw [← pe]
        exact (raised_keeps ha hd) _ _ htl
    have q := q (by rw [← pe]; exact pn)
    rw [pn] at h1
    obtain ⟨y, W⟩ := LP.w
    have S := W.none O fun i hi => psF_nil.mp pn i (by rw [len] at hi; exact hi)
    rw [len] at S
    refine ⟨_, rfl, false, .inl ⟨[], SqL.of h1, rfl⟩, iteF ?_⟩
    refine ⟨_, rfl, _, _, rfl, lenV_seqB (hk.same s1), _, rfl, ?_⟩
    rw [rk_len]
    refine ⟨by omega, by omega, fun D hD => ?_⟩
    have hk1 := hk.same s1
    have L1 := L.same s1
    refine lc_range (lo := 0) (n := ks.length) (fun i H' => ∃ rs : List Rw, Same H1 H' ∧ H' D = some (.lst (rv rs)) ∧ rs.length = i ∧ RwL K H' ks.length (initA (ks.map Kn.q)) D rs) ⟨[], same_new hD, upd_same, rfl, .nil⟩ (fun i H2 hi z => ?_) (fun H2 z => ?_)
    · obtain ⟨rs, s2, hD2, lr, R⟩ := z
      rw [Int.zero_add]
      refine ⟨rfl, yesT ?_⟩
      refine ⟨_, rfl, _, rfl, kl, ks, i, p, rfl, hk1.same s2, L1.same s2, hi, l6, fun f l H3 s3 n3 h3 fl ro => ?_⟩
      have hD3 := s3 _ _ hD2
      have fD : f ≠ D := fun e => by
        rw [e, hD2] at n3
        cases n3
      refine ⟨_, hD3, by rw [rv_len]; exact small' (by omega), rs ++ [(f, l)], Same.put (s2.trans s3) hD, by rw [upd_same, rv_snoc], snoc_len lr, ?_⟩
      exact ((R.same s3).snoc ⟨h3, fl, by rw [lr]; exact ro⟩ fD).put hD3
    · obtain ⟨rs, s2, hD2, lr, R⟩ := z
      have hk2 := hk1.same s2
      refine ⟨_, rfl, _, _, rfl, lenV_seqB hk2, _, rfl, ?_⟩
      rw [rk_len]
      refine ⟨by omega, by omega, for_range (lo := 0) (n := ks.length) (fun k σ H' => ∃ (rl : Addr) (rs : List Rw) (v3 v4 v5 : Option V), σ = [some (.ref kl), some (.ref lo), some (.ref rl), v3, v4, v5] ∧ Same H1 H' ∧ H1 rl = none ∧ H' rl = some (.lst (rv rs)) ∧ rs.length = ks.length ∧ RwL K H' ks.length (stgA (initA (ks.map Kn.q)) k) rl rs)
        ⟨D, rs, none, none, none, rfl, s2, hD, hD2, lr, R⟩ ?_ ?_⟩
      · rintro k σ H3 hi ⟨rl, rs, v3, v4, v5, rfl, s3, nr, hr3, lr, R⟩
        have ok := sol_step (ks := ks.map Kn.q) O (by rw [len]; exact S) (k := k) (by rw [len]; exact hi)
        rw [len] at ok
        have er : rs[k]? = some rs[k] := List.getElem?_eq_getElem (by omega)
        generalize rs[k] = rk' at er
        have Rk := (R k rk' er).1
        rw [Int.zero_add]
        refine ⟨_, rfl, _, rfl, rl, _, (k : Int), _, rfl, rfl, SqL.of hr3, at_of rfl (rv_at er), _, rfl, rk'.1, rk'.2, ks.length, k, _, rfl, SqL.of Rk.at_, Rk.fl, Rk.ro, hi, l6, ok, fun f m H4 s4 n4 h4 fm ro => ?_⟩
        have hr4 := s4 _ _ hr3
        refine ⟨_, rfl, _, rfl, rl, _, (k : Int), k, rfl, rfl, hr4, ixN_nat (by rw [rv_len]; omega), ?_⟩
        rw [rv_set rs k (f, m)]
        have frl : f ≠ rl := fun e => by
          rw [e, hr3] at n4
          cases n4
        have Rf : RwOk K (upd H4 rl (.lst (rv (rs.set k (f, m))))) ks.length (freedR k (stgA (initA (ks.map Kn.q)) k k)) (f, m) := RwOk.put ⟨h4, fm, ro⟩ hr4 frl
        have R5 := (R.same s4).put (ys := rv (rs.set k (f, m))) hr4
        have hr5 : (upd H4 rl (.lst (rv (rs.set k (f, m))))) rl = some (.lst (rv (rs.set k (f, m)))) := upd_same
        have s5 : Same H1 (upd H4 rl (.lst (rv (rs.set k (f, m))))) := Same.put (s3.trans s4) nr
        generalize upd H4 rl (.lst (rv (rs.set k (f, m)))) = H5 at Rf R5 hr5 s5
        have slen : (rs.set k (f, m)).length = ks.length := by rw [List.length_set, lr]
        have eself : (rs.set k (f, m))[k]? = some (f, m) := List.getElem?_set_self (by omega)
        refine ⟨_, rfl, rl, _, true, rfl, SqL.of hr5, fun D' hD' => ?_⟩
        refine lc_it (walk_enumB (K := K) (a := rl) (xs := rv (rs.set k (f, m))) (p := true)) (fun j H' => ∃ qs : List Rw, Same H5 H' ∧ H' D' = some (.lst (rv qs)) ∧ qs.length = j ∧ RwL K H' ks.length (stgA (initA (ks.map Kn.q)) (k + 1)) D' qs)
          ⟨[], same_new hD', upd_same, rfl, .nil⟩ (fun j H' _ ⟨qs, s, _⟩ => SqL.of (s _ _ hr5)) ?_ ?_
        · rintro j v H6 H7 hj ⟨qs, s6, hD6, lq, R6⟩ ⟨T0, x0, y0, rfl, hT, rfl, e0, ex⟩
          obtain rfl := Option.some.inj e0
          obtain ⟨r, ej, rfl⟩ := rv_get ex
          rw [rv_len, slen] at hj
          have sT : Same H6 (upd H6 T0 (.tup [.int (j : Nat), .ref r.1])) := same_new hT
          have hT7 : (upd H6 T0 (.tup [.int (j : Nat), .ref r.1])) T0 = some (.tup [.int (j : Nat), .ref r.1]) := upd_same
          generalize upd H6 T0 (.tup [.int (j : Nat), .ref r.1]) = H7 at sT hT7
          have s57 := s6.trans sT
          have hD7 := sT _ _ hD6
          have rD : r.1 ≠ D' := fun e => by
            by_cases c : j = k
            · subst c
              rw [eself] at ej
              cases ej
              have : H5 f = some _ := Rf.at_
              rw [show f = D' from e, hD'] at this
              cases this
            · rw [List.getElem?_set_ne (fun z => c z.symm)] at ej
              have := (R5 j r ej).1.at_
              rw [e, hD'] at this
              cases this
          refine ⟨T0, _, rfl, SqT.of hT7, rfl, _, _, rfl, _, _, rfl, rfl, rfl, yesT ?_⟩
          refine ⟨_, rfl, _, rfl, rfl, _, rfl, ?_⟩
          by_cases c : j = k
          · subst c
            rw [eself] at ej
            cases ej
            refine ite_iT rfl ?_
            refine ⟨_, rfl, _, hD7, by rw [rv_len]; exact small' (by omega), qs ++ [(f, m)], Same.put s57 hD', by rw [upd_same, rv_snoc], snoc_len lq, ?_⟩
            refine ((R6.same sT).snoc ?_ rD).put hD7
            refine (show RwOk K H5 ks.length _ (f, m) from ⟨Rf.at_, Rf.fl, ?_⟩).same s57
            rw [lq]
            have e1 : stgA (initA (ks.map Kn.q)) (j + 1) j = freedR j (stgA (initA (ks.map Kn.q)) j j) := by
              funext i
              show stepA j _ j i = _
              unfold stepA
              rw [if_pos rfl]
            rw [e1]
            exact Rf.ro
          · have ej' := ej
            rw [List.getElem?_set_ne (fun z => c z.symm)] at ej'
            have Rj := (R5 j r ej').1.same s57
            have Rf7 := Rf.same s57
            refine ite_iF (by omega) ?_
            refine ⟨_, rfl, _, rfl, _, rfl, _, rfl, rl, _, (k : Int), _, rfl, rfl, SqL.of (s57 _ _ hr5), at_of rfl (rv_at eself), r.1, f, r.2, m, ks.length, k, j, _, rfl, SqL.of Rj.at_, Rj.fl, Rj.ro, SqL.of Rf7.at_, Rf7.fl, Rf7.ro, hi, hj, c, l6, ok, fun g u H8 s8 n8 h8 fu ru => ?_⟩
            have hD8 := s8 _ _ hD7
            have gD : g ≠ D' := fun e => by
              rw [e, hD7] at n8
              cases n8
            refine ⟨_, hD8, by rw [rv_len]; exact small' (by omega), qs ++ [(g, u)], Same.put (s57.trans s8) hD', by rw [upd_same, rv_snoc], snoc_len lq, ?_⟩
            refine (((R6.same sT).same s8).snoc ⟨h8, fu, ?_⟩ gD).put hD8
            rw [lq]
            exact ru
        · rintro H6 ⟨qs, s6, hD6, lq, R6⟩
          rw [rv_len, slen] at lq
          exact ⟨D', qs, _, _, _, rfl, s5.trans s6, same_none s5 hD', hD6, lq, R6⟩
      · rintro σ H3 ⟨rl, rs, v3, v4, v5, rfl, s3, nr, hr3, lr, R⟩
        refine ⟨_, rfl, rl, rfl, ⟨_, SqL.of hr3⟩, fun D2 hD2 => ?_⟩
        refine lc_it (walk_list (K := K) (a := rl) (xs := rv rs)) (fun j H' => ∃ m : List Fz, Same H3 H' ∧ H' D2 = some (.lst (rz m)) ∧ FL K H' m ∧ m.length = j ∧ PreL (fun i => stgA (initA (ks.map Kn.q)) ks.length i ks.length) m)
          ⟨[], same_new hD2, upd_same, .nil, rfl, .nil⟩ (fun j H' _ ⟨m, s, _⟩ => SqL.of (s _ _ hr3)) ?_ ?_
        · rintro j v H4 H5 hj ⟨m, s4, hD4, fm, lm, pm⟩ ⟨rfl, hv⟩
          obtain ⟨r, ej, rfl⟩ := rv_get hv
          have Rj := (R j r ej).1.same s4
          obtain ⟨z, ez, vz⟩ := Rj.ro.at_ (show ks.length < ks.length + 1 by omega)
          rw [rv_len] at hj
          refine ⟨rfl, yesT ?_⟩
          refine ⟨_, rfl, _, rfl, r.1, _, -1, _, rfl, rfl, SqL.of Rj.at_, at_last Rj.ro.len ez, ?_⟩
          refine ⟨_, hD4, by rw [rz_len]; exact small' (by omega), m ++ [z], Same.put s4 hD2, by rw [upd_same, rz_snoc], FL.put (FL.snoc fm (Rj.fl z (List.mem_of_getElem? ez))) hD4, snoc_len lm, pm.snoc (by rw [lm]; exact vz)⟩
        · rintro H4 ⟨m, s4, hD4, fm, lm, pm⟩
          rw [rv_len, lr] at lm
          exact q D2 m H4 (s1.trans (s3.trans s4)) (same_none (s1.trans s3) hD2) hD4 fm (sol_pre (by rw [len]; exact lm) (by rw [len]; exact pm)) ⟨y, S⟩

end
end KR
namespace KR
open PySem PySem.Spec PyProof.Rows L2
section
variable {P : Program} {w : World} {K : PySem.W.Frag} {mg : Str → Option Value} {base : Heap}
def sp_p_rounds_till (K : PySem.W.Frag) (C : Addr) : Sp := fun vs H Q E => ∃ (kl al ml : Addr) (ks : List Kn) (am : List Fz) (m : Rat) (p p2 : Bool) (P0 : Nat → Bool), vs = [.ref kl, .ref al, .ref ml] ∧ SqB K H kl (rk ks) p ∧ SqB K H al (rz am) p2 ∧ KnL K H ks.length ks ∧ FL K H am ∧ am.length = ks.length ∧ 1 ≤ ks.length ∧ ks.length ≤ 6 ∧ Great (ks.map Kn.q) P0 ∧ (∀ z ∈ am, AmS z.2) ∧ FrQ K H ml m ∧ Big m ∧
  (psF P0 ks.length ≠ [] → ∀ (d tl : Addr) (H' : Hp), Same H H' → H' d = some (.xd (wh "NoSteady" (.ref tl))) → H' tl = some (.tup (ri (psF P0 ks.length))) → E (.ref C) (some d) H') ∧
  (psF P0 ks.length = [] → ∀ v H', Same H H' → TillV (fun r => gapQ (roundsQ (ks.map Kn.q) r (am.map (·.2))) (solQ (ks.map Kn.q))) m v → Q v H')
theorem ok_p_rounds_till (T : All K mg) : FnOk P w K mg base (L2.CX P w) 7 T.f_p_rounds_till T.fd_p_rounds_till ["kinds", "amounts", "most"] (sp_p_rounds_till K T.C_NoSteady) := by
  refine T.d_p_rounds_till.fn.okX sc_p_rounds_till (fun vs H Q E h => ?_) (fun cdv A outer s H vs Q E hr h => ?_)
  · obtain ⟨kl, al, ml, ks, am, m, p, p2, P0, rfl, _⟩ := h
    rfl
  · obtain ⟨kl, al, ml, ks, am, m, p, p2, P0, rfl, hk, ha, L, fa, la, l1, l6, G0, aa, hm, bm, qE, q⟩ := h
    refine ⟨_, (pss_cons (ps_set (i := 3) sc_p_rounds_till.nd rfl (by first | exact Or.inl rfl | exact Or.inr rfl) (pe_callS (ok_p_steady_state T) (hr.mono (by decide)) (by rfl) T.d_p_steady_state.mg T.d_p_steady_state.fn.kp T.d_p_steady_state.b (fun σ => passAt (takes_of rfl rfl rfl rfl) σ) (pa_cons (pv 0) pa_nil)))
      (pss_cons (ps_set (i := 4) sc_p_rounds_till.nd rfl (by first | exact Or.inl rfl | exact Or.inr rfl) (pv 1))
      (pss_cons (ps_for PassesOwn.leaving rfl (pi_range1 (by rfl) T.b_range (pa_cons (pe_op op_add (pe_glob (v := .int 40) rfl T.c_MOST_ROUNDS ⟨_, rfl⟩) pe_int) pa_nil)) (pg_name (i := 5) sc_p_rounds_till.nd rfl (by first | exact Or.inl rfl | exact Or.inr rfl)) (pss_cons (ps_if (pt_not (pt_val (pe_call (ok_p_is_lesser T) (hr.mono (by decide)) (by rfl) T.d_p_is_lesser.mg T.d_p_is_lesser.fn.kp T.d_p_is_lesser.b .nil pass0 (pa_cons (pv 2) (pa_cons (pe_call (ok_p_gap_between T) (hr.mono (by decide)) (by rfl) T.d_p_gap_between.mg T.d_p_gap_between.fn.kp T.d_p_gap_between.b .nil pass0 (pa_cons (pv 4) (pa_cons (pv 3) pa_nil))) pa_nil))))) (pss_one (ps_ret (pv 5))) pss_nil)
      (pss_one (ps_set (i := 4) sc_p_rounds_till.nd rfl (by first | exact Or.inl rfl | exact Or.inr rfl) (pe_call (ok_p_walked_once T) (hr.mono (by decide)) (by rfl) T.d_p_walked_once.mg T.d_p_walked_once.fn.kp T.d_p_walked_once.b .nil pass0 (pa_cons (pv 0) (pa_cons (pv 4) pa_nil)))))))
      (pss_one (ps_ret pe_non))))), ?_⟩
    have O := L.ks l6
    have len : (ks.map Kn.q).length = ks.length := List.length_map _
    have lq : (am.map (·.2)).length = (ks.map Kn.q).length := by rw [List.length_map, List.length_map, la]
    refine ⟨_, rfl, kl, ks, p, P0, rfl, hk, L, l1, l6, G0, qE, fun pn f st H1 s1 n1 h1 fs es ⟨y, S⟩ => ?_⟩
    have q := q pn
    obtain ⟨M, M1, M0, rr⟩ := rounds6 O (mem_q aa) lq
    have gg := gap6 O (mem_q aa) lq (y := y) (by rw [len]; exact S)
    have ls : st.length = ks.length := by
      have e := congrArg List.length es
      rw [List.length_map, sol_len, len] at e
      exact e
    refine ⟨_, rfl, ?_⟩
    refine ⟨_, _, rfl, rfl, 41, rfl, by decide, by decide, for_range (lo := 0) (n := 41) (fun i σ H' => ∃ (d : Addr) (dr : List Fz) (pd : Bool) (v5 : Option V), σ = [some (.ref kl), some (.ref al), some (.ref ml), some (.ref f), some (.ref d), v5] ∧ Same H1 H' ∧ SqB K H' d (rz dr) pd ∧ FL K H' dr ∧ dr.map (·.2) = roundsQ (ks.map Kn.q) i (am.map (·.2)) ∧ ∀ j, j < i → m < gapQ (roundsQ (ks.map Kn.q) j (am.map (·.2))) (solQ (ks.map Kn.q)))
      ⟨al, am, p2, none, rfl, .refl _, ha.same s1, fa.same s1, rfl, fun j h => absurd h (Nat.not_lt_zero j)⟩ ?_ ?_⟩
    · rintro i σ H2 hi ⟨d, dr, pd, v5, rfl, s2, hd, fd, ed, below⟩
      have dl : dr.length = ks.length := by
        have e := congrArg List.length ed
        rw [List.length_map, rounds_len lq, len] at e
        exact e
      have s12 := s1.trans s2
      refine ⟨_, rfl, _, rfl, _, rfl, d, f, dr, st, pd, true, rfl, hd, SqL.of (s2 _ _ h1), fd, fs.same s2, by omega, by omega, by rw [ed, es]; exact gg i (by omega), fun z H3 s3 hz => ?_⟩
      rw [ed, es] at hz
      have s13 := s12.trans s3
      refine ⟨ml, z, m, _, rfl, hm.same s13, hz, bm, (gg i (by omega)).bz, _, rfl, ?_⟩
      by_cases c : m < gapQ (roundsQ (ks.map Kn.q) i (am.map (·.2))) (solQ (ks.map Kn.q))
      · refine ite_bF (by rw [decide_eq_true c] <;> rfl) ?_
        refine ⟨_, rfl, _, rfl, kl, d, ks, dr, _, _, p, pd, rfl, hk.same s13, hd.same s3, L.same s13, fd.same s3, dl, by omega, by rw [ed]; exact (rr i (by omega)).1, fun g l H4 s4 n4 h4 fl el => ?_⟩
        refine ⟨g, l, true, _, rfl, s2.trans (s3.trans s4), SqL.of h4, fl, by rw [el, ed] <;> rfl, fun j hj => ?_⟩
        rcases Nat.lt_or_ge j i with lt | ge
        · exact below j lt
        · rw [show j = i by omega]
          exact c
      · refine ite_bT (by rw [decide_eq_false c] <;> rfl) ?_
        exact ⟨_, rfl, q _ _ s13 (.inl ⟨i, by omega, below, c, by rw [Int.zero_add]⟩)⟩
    · rintro σ H2 ⟨d, dr, pd, v5, rfl, s2, hd, fd, ed, below⟩
      exact q _ _ (s1.trans s2) (.inr ⟨fun j hj => below j (by omega), rfl⟩)

end
end KR
namespace KR
open PySem PySem.Spec PyProof.Rows L2
section
variable {P : Program} {w : World} {K : PySem.W.Frag} {mg : Str → Option Value} {base : Heap}
def sp_p_shows_steady (K : PySem.W.Frag) (P : Addr) : Sp := fun vs H Q _ => ∃ (kl al : Addr) (ks : List Kn) (am : List Fz) (M B : Nat), vs = [.ref kl, .ref al] ∧ SqL K H kl (rk ks) ∧ KnL K H ks.length ks ∧ ks.length ≤ 6 ∧ H al = some (.lst (rz am)) ∧ FL K H am ∧ am.length = ks.length ∧ AmOk M B (am.map (·.2)) ∧ GxR.TabG H P ∧ ∀ H', Sm H H' → Q (.bl (PyData.eqv (.list ((onceQ (ks.map Kn.q) (am.map (·.2))).map dq)) (.list ((am.map (·.2)).map dq)))) H'
theorem dqs_map (l : List Fz) : (l.map fun z => dq z.2) = (l.map (·.2)).map dq := by rw [List.map_map] <;> rfl
theorem ok_p_shows_steady (T : All K mg) (B : Tabs T base) : FnOk P w K mg base CX0 5 T.f_p_shows_steady T.fd_p_shows_steady ["kinds", "thing"] (sp_p_shows_steady K T.P_p_are_amounts) := by
  refine T.d_p_shows_steady.fn.ok sc_p_shows_steady (fun vs H Q E h => ?_) (fun cdv A outer s H vs Q E hr h => ?_)
  · obtain ⟨kl, al, ks, am, M, B', rfl, _⟩ := h
    rfl
  · obtain ⟨kl, al, ks, am, M, B', rfl, hk, L, l6, ha, fa, len, ok, hT, q⟩ := h
    refine ⟨_, (pss_one (ps_ret (pe_and (pe_call (ok_p_are_amounts T B) hr (by rfl) T.d_p_are_amounts.mg T.d_p_are_amounts.fn.kp T.d_p_are_amounts.b .nil pass0 (pa_cons (pv 0) (pa_cons (pv 1) pa_nil))) (pe_one (pe_cmpR (eqDK (K := K) rfl hr.units) (pe_call (ok_p_walked_once T) hr (by rfl) T.d_p_walked_once.mg T.d_p_walked_once.fn.kp T.d_p_walked_once.b .nil pass0 (pa_cons (pv 0) (pa_cons (pv 1) pa_nil))) (pv 1) (nomark _)))))), ?_⟩
    refine ⟨_, rfl, _, rfl, kl, al, ks, am, rfl, hk, ha, fa, len, fun z hz => ok.lo _ (List.mem_map.mpr ⟨z, hz, rfl⟩), hT, fun H1 sm => ⟨true, rfl, iteT ?_⟩⟩
    have ha1 := sm.lst ha
    refine ⟨_, rfl, _, rfl, kl, al, ks, am, M, B', true, true, rfl, sm.seq hk, SqL.of ha1, L.sm sm, fa.sm sm, len, l6, ok, fun f l H2 s2 n2 h2 fl el => ?_⟩
    refine ⟨_, rfl, _, _, dq_dps (SqL.of h2) fl, dq_dps (SqL.of (s2 _ _ ha1)) ((fa.sm sm).same s2), dqs_shaped _, dqs_shaped _, ?_⟩
    rw [dqs_map, dqs_map, el]
    exact q H2 (sm.trans (.of s2))

end
end KR
namespace KR
open PySem PySem.Spec PyProof.Rows L2
section
variable {P : Program} {w : World} {K : PySem.W.Frag} {mg : Str → Option Value} {base : Heap}
def sp_l_great_right (K : PySem.W.Frag) (Ps : List Addr) : Sp := fun vs H Q _ => ∃ p : Addr, vs = [.ref p] ∧ BoxAt H p 0 ∧ Tbs Ps H ∧ ∀ H', Fs p H H' → Q (.bl true) H'
theorem ok_l_great_right (T : All K mg) (B : Tabs T base) : FnOk P w K mg base CX0 9 T.f_l_great_right T.fd_l_great_right ["_law_box_here"] (sp_l_great_right K T.Ps) := by
  refine T.d_l_great_right.fn.ok sc_l_great_right (fun vs H Q E h => ?_) (fun cdv A outer s H vs Q E hr h => ?_)
  · obtain ⟨p, rfl, _⟩ := h
    rfl
  · obtain ⟨p, rfl, hB, hT, q⟩ := h
    refine ⟨_, (pss_cons (ps_par3 (i := 1) (j := 2) (l := 3) (by rfl) sc_l_great_right.nd rfl rfl rfl (by decide) (by decide) (by decide) rfl rfl rfl (pa_cons (pe_call (ok_l_kinds T) (hr.mono (by decide)) (by rfl) T.d_l_kinds.mg T.d_l_kinds.fn.kp T.d_l_kinds.b .nil pass0 (pa_cons (pv 0) (pa_cons pe_int pa_nil))) (pa_cons (pe_call (ok_l_amounts T) (hr.mono (by decide)) (by rfl) T.d_l_amounts.mg T.d_l_amounts.fn.kp T.d_l_amounts.b .nil pass0 (pa_cons (pv 0) (pa_cons pe_int (pa_cons pe_int pa_nil)))) (pa_cons (pe_call (ok_l_take T) (hr.mono (by decide)) (by rfl) T.d_l_take.mg T.d_l_take.fn.kp T.d_l_take.b .nil pass0 (pa_cons (pv 0) (pa_cons pe_int pa_nil))) pa_nil))) (by rfl))
      (pss_cons (ps_if (pt_cmpR op_notBl (pe_call (ok_p_are_kinds T B) hr (by rfl) T.d_p_are_kinds.mg T.d_p_are_kinds.fn.kp T.d_p_are_kinds.b .nil pass0 (pa_cons (pv 1) pa_nil)) pe_bl (nomark _)) (pss_one (ps_ret pe_bl)) pss_nil)
      (pss_cons (ps_par (i := 4) (j := 5) (by rfl) sc_l_great_right.nd rfl rfl (by decide) rfl rfl (pa_cons (pe_call (ok_p_walked_on T) (hr.mono (by decide)) (by rfl) T.d_p_walked_on.mg T.d_p_walked_on.fn.kp T.d_p_walked_on.b .nil pass0 (pa_cons (pv 1) (pa_cons (pv 2) (pa_cons pe_int pa_nil)))) (pa_cons (pv 2) pa_nil)) (by rfl))
      (pss_cons (ps_for PassesOwn.never rfl (pi_range1 (by rfl) T.b_range (pa_cons pe_int pa_nil)) (pg_name (i := 6) sc_l_great_right.nd rfl (by first | exact Or.inl rfl | exact Or.inr rfl)) (pss_one (ps_set (i := 5) sc_l_great_right.nd rfl (by first | exact Or.inl rfl | exact Or.inr rfl) (pe_call (ok_l_once T) (hr.mono (by decide)) (by rfl) T.d_l_once.mg T.d_l_once.fn.kp T.d_l_once.b .nil pass0 (pa_cons (pv 1) (pa_cons (pv 5) pa_nil))))))
      (pss_cons (ps_if (pt_cmpR (neDK (K := K) rfl hr.units) (pe_call (ok_p_walked_on T) (hr.mono (by decide)) (by rfl) T.d_p_walked_on.mg T.d_p_walked_on.fn.kp T.d_p_walked_on.b .nil pass0 (pa_cons (pv 1) (pa_cons (pv 2) (pa_cons pe_int pa_nil)))) (pv 5) (nomark _)) (pss_one (ps_ret pe_bl)) pss_nil)
      (pss_cons (ps_if (pt_cmpR (neDK (K := K) rfl hr.units) (pe_call (ok_p_walked_on T) (hr.mono (by decide)) (by rfl) T.d_p_walked_on.mg T.d_p_walked_on.fn.kp T.d_p_walked_on.b .nil pass0 (pa_cons (pv 1) (pa_cons (pe_call (ok_p_walked_on T) (hr.mono (by decide)) (by rfl) T.d_p_walked_on.mg T.d_p_walked_on.fn.kp T.d_p_walked_on.b .nil pass0 (pa_cons (pv 1) (pa_cons (pv 2) (pa_cons (pv 3) pa_nil)))) (pa_cons (pe_op op_sub pe_int (pv 3)) pa_nil)))) (pv 4) (nomark _)) (pss_one (ps_ret pe_bl)) pss_nil)
      (pss_cons (ps_set (i := 7) sc_l_great_right.nd rfl (by first | exact Or.inl rfl | exact Or.inr rfl) (pe_call (ok_l_all T) (hr.mono (by decide)) (by rfl) T.d_l_all.mg T.d_l_all.fn.kp T.d_l_all.b .nil pass0 (pa_cons (pe_call (ok_p_walked_once T) (hr.mono (by decide)) (by rfl) T.d_p_walked_once.mg T.d_p_walked_once.fn.kp T.d_p_walked_once.b .nil pass0 (pa_cons (pv 1) (pa_cons (pv 2) pa_nil))) pa_nil)))
      (pss_cons (ps_setLc (i := 8) (own := [("_law_one", 9), ("_law_kind", 10)]) (g := gTup K 2 (gCons (gName 9) (gCons (gName 10) gNil))) (tt := tYes) (by rfl) sc_l_great_right.nd rfl rfl (sw_true rfl rfl rfl (by decide +kernel)) (pi_zipB (K := K) rfl (by rfl) T.b_zip (pa_cons (pv 2) (pa_cons (pv 1) pa_nil))) (blkOk_by (own := [("_law_one", 9), ("_law_kind", 10)]) (N := ["_law_box_here", "_law_kinds_here", "_law_amounts_here", "_law_cut", "_law_far", "_law_due", "_law_turn", "_law_behind", "_law_kept", "_law_one", "_law_kind", "_law_steady"]) (sc := defScope s_l_great_right) (by decide +kernel)) (fun _ _ _ _ _ => (pg_tupK (K := K) rfl rfl (pgs_cons (pg_name (i := 9) sc_l_great_right.nd rfl (by first | exact Or.inl rfl | exact Or.inr rfl)) (pgs_cons (pg_name (i := 10) sc_l_great_right.nd rfl (by first | exact Or.inl rfl | exact Or.inr rfl)) pgs_nil)))) (fun _ _ _ _ _ => pts_nil) (fun _ _ _ _ _ => (pe_call (ok_l_by T) (hr.mono (by decide)) (by rfl) T.d_l_by.mg T.d_l_by.fn.kp T.d_l_by.b .nil pass0 (pa_cons (pe_call (ok_l_by T) (hr.mono (by decide)) (by rfl) T.d_l_by.mg T.d_l_by.fn.kp T.d_l_by.b .nil pass0 (pa_cons (pv 9) (pa_cons (pe_ix (ixT (K := K) rfl) (pv 10) pe_int (fun _ _ => rfl)) pa_nil))) (pa_cons (pe_call (ok_l_all T) (hr.mono (by decide)) (by rfl) T.d_l_all.mg T.d_l_all.fn.kp T.d_l_all.b .nil pass0 (pa_cons (pe_ix (ixT (K := K) rfl) (pv 10) pe_int (fun _ _ => rfl)) pa_nil)) pa_nil)))))
      (pss_cons (ps_if (pt_cmpR (neDK (K := K) rfl hr.units) (pv 7) (pe_call (ok_l_plus T) (hr.mono (by decide)) (by rfl) T.d_l_plus.mg T.d_l_plus.fn.kp T.d_l_plus.b .nil pass0 (pa_cons (pe_call (ok_l_all T) (hr.mono (by decide)) (by rfl) T.d_l_all.mg T.d_l_all.fn.kp T.d_l_all.b .nil pass0 (pa_cons (pv 8) pa_nil)) (pa_cons (pe_tupI (pa_cons (pe_callB (sumBK (K := K) rfl rfl) (by rfl) T.b_sum (by decide +kernel) (pa_cons (pe_lc (own := [("_law_kind", 10)]) (g := gName 10) (tt := tYes) (by rfl) sc_l_great_right.nd (pi_listK (K := K) rfl (pv 1)) (blkOk_by (own := [("_law_kind", 10)]) (N := ["_law_box_here", "_law_kinds_here", "_law_amounts_here", "_law_cut", "_law_far", "_law_due", "_law_turn", "_law_behind", "_law_kept", "_law_one", "_law_kind", "_law_steady"]) (sc := defScope s_l_great_right) (by decide +kernel)) (fun _ _ _ _ _ => (pg_name (i := 10) sc_l_great_right.nd rfl (by first | exact Or.inl rfl | exact Or.inr rfl))) (fun _ _ _ _ _ => pts_nil) (fun _ _ _ _ _ => (pe_ix (ixT (K := K) rfl) (pv 10) pe_int (fun _ _ => rfl)))) pa_nil)) (pa_cons pe_int pa_nil))) pa_nil))) (nomark _)) (pss_one (ps_ret pe_bl)) pss_nil)
      (pss_cons (ps_if (pt_cmpR (neDK (K := K) rfl hr.units) (pe_call (ok_l_lossless T) (hr.mono (by decide)) (by rfl) T.d_l_lossless.mg T.d_l_lossless.fn.kp T.d_l_lossless.b .nil pass0 (pa_cons (pv 1) pa_nil)) (pe_lstI pa_nil) (nomark _)) (pss_one (ps_ret pe_bl)) pss_nil)
      (pss_cons (ps_set (i := 11) sc_l_great_right.nd rfl (by first | exact Or.inl rfl | exact Or.inr rfl) (pe_call (ok_p_steady_state T) (hr.mono (by decide)) (by rfl) T.d_p_steady_state.mg T.d_p_steady_state.fn.kp T.d_p_steady_state.b .nil passX0 (pa_cons (pv 1) pa_nil)))
      (pss_one (ps_ret (pe_and (pe_cmpR (eqDK (K := K) rfl hr.units) (pe_call (ok_l_once T) (hr.mono (by decide)) (by rfl) T.d_l_once.mg T.d_l_once.fn.kp T.d_l_once.b .nil pass0 (pa_cons (pv 1) (pa_cons (pv 11) pa_nil))) (pv 11) (nomark _)) (pe_one (pe_cmpR op_isBl (pe_call (ok_p_shows_steady T B) (hr.mono (by decide)) (by rfl) T.d_p_shows_steady.mg T.d_p_shows_steady.fn.kp T.d_p_shows_steady.b .nil pass0 (pa_cons (pv 1) (pa_cons (pv 11) pa_nil))) pe_bl (nomark _))))))))))))))))), ?_⟩
    refine ⟨_, rfl, p, 6, 0, rfl, hB, by decide, by decide, by decide, fun kl ks H2 hk L lk B2 F2 klp nk => ?_⟩
    refine ⟨_, rfl, p, 6, 0 + 300, 2, rfl, B2, by decide, by decide, by decide, by decide, by decide, fun al am H3 ha fa la qa B3 F3 alp na => ?_⟩
    refine ⟨_, rfl, p, 41, 0 + 300 + 100, rfl, B3, by decide, by decide, by decide, fun cut H4 cut0 cut1 B4 F4 => ⟨_, _, _, rfl, ?_⟩⟩
    obtain ⟨cn, rfl⟩ : ∃ cn : Nat, cut = (cn : Int) := ⟨cut.toNat, by omega⟩
    have c40 : cn ≤ 40 := by omega
    have F24 : Fr p H2 H4 := F3.trans F4
    have F04 : Fr p H H4 := F2.trans F24
    have hk4 := F24 _ _ klp hk
    have L4 := L.fr B2 F24
    have ha4 := F4 _ _ alp ha
    have fa4 := fa.fr B3 F4
    have len : am.length = ks.length := by rw [la, lk]
    have l6 : ks.length ≤ 6 := by omega
    rw [← lk] at L4
    have hT4 : Tbs T.Ps H4 := hT.fr hB F04
    have tk : Tg K (fun a => a = p) H4 1000001 4 (.ref kl) (.list (ks.map kindE)) := (kns_tg L4).l hk4 klp
    refine ⟨_, rfl, _, 1000001, 4, _, _, rfl, .inl tk, hT4, fun H5 s5 => ?_⟩
    rw [kinds_is L4 (by omega) l6]
    refine ⟨_, _, rfl, rfl, _, rfl, iteF ?_⟩
    have hk5 := s5.lst hk4
    have ha5 := s5.lst ha4
    have L5 := L4.sm s5
    have fa5 := fa4.sm s5
    have hT5 := hT4.sm s5
    have kq := kq_mem L5
    have O := L5.ks l6
    have lq : (am.map (·.2)).length = (ks.map Kn.q).length := by rw [List.length_map, List.length_map, len]
    have k6 : (ks.map Kn.q).length ≤ 6 := by rw [List.length_map]; exact l6
    have kl' : (ks.map Kn.q).length = ks.length := List.length_map _
    have okR := am_rounds kq k6 lq (mem_q qa)
    have okr : ∀ n, n ≤ 41 → ∀ r, r < n → ∃ M B, AmOk M B (roundsQ (ks.map Kn.q) r (am.map (·.2))) := fun n hn r hr => okR r (by omega)
    obtain ⟨M, Bm, ok⟩ := okR 0 (by decide)
    have ok : AmOk M Bm (am.map (·.2)) := ok
    have rl : ∀ {l : List Fz} {r : Nat}, l.map (·.2) = roundsQ (ks.map Kn.q) r (am.map (·.2)) → l.length = ks.length := fun {l r} e => by
      have e := congrArg List.length e
      rw [List.length_map, rounds_len lq, List.length_map] at e
      exact e
    refine ⟨_, rfl, _, rfl, kl, al, ks, am, 40, true, true, rfl, by decide, SqL.of hk5, SqL.of ha5, L5, fa5, len, l6, okr 40 (by decide), fun fr lf H6 s6 n6 h6 ff ef => ⟨_, rfl, _, _, rfl, ?_⟩⟩
    -- twelve rounds of the law's own
    refine ⟨_, rfl, by decide, by decide, for_range (lo := 0) (n := 12) (fun i σ H' => ∃ (d : Addr) (dr : List Fz) (v6 : Option V), σ = [some (.ref p), some (.ref kl), some (.ref al), some (.int (cn : Int)), some (.ref fr), some (.ref d), v6, none, none, none, none, none] ∧ Same H6 H' ∧ H' d = some (.lst (rz dr)) ∧ FL K H' dr ∧ dr.map (·.2) = roundsQ (ks.map Kn.q) i (am.map (·.2)))
      ⟨al, am, none, rfl, .refl _, s6 _ _ ha5, fa5.same s6, rfl⟩ ?_ ?_⟩
    · rintro i σ H7 hi ⟨d, dr, v6, rfl, s7, hd, fd, ed⟩
      obtain ⟨M', B', a⟩ := okR i (by omega)
      refine ⟨_, rfl, _, rfl, kl, d, ks, dr, M', B', rfl, SqL.of (s7 _ _ (s6 _ _ hk5)), SqL.of hd, (L5.same s6).same s7, fd, rl ed, l6, by rw [ed]; exact a, fun f l H8 s8 n8 h8 fl el => ?_⟩
      refine ⟨f, l, _, rfl, s7.trans s8, h8, fl, ?_⟩
      rw [el, ed] <;> rfl
    rintro σ H7 ⟨d, dr, v6, rfl, s7, hd, fd, ed⟩
    have s57 := s6.trans s7
    have dats : ∀ {l m : List Fz} {n : Nat}, l.map (·.2) = roundsQ (ks.map Kn.q) n (am.map (·.2)) → m.map (·.2) = roundsQ (ks.map Kn.q) n (am.map (·.2)) → (l.map fun z => dq z.2) = m.map fun z => dq z.2 := fun {l m n} e e' => dqs_same (e.trans e'.symm)
    refine ⟨_, rfl, _, rfl, kl, al, ks, am, 12, true, true, rfl, by decide, SqL.of (s57 _ _ hk5), SqL.of (s57 _ _ ha5), L5.same s57, fa5.same s57, len, l6, okr 12 (by decide), fun f1 l1 H8 s8 n8 h8 ff1 ef1 => ?_⟩
    refine ⟨_, rfl, _, _, dq_dps (SqL.of h8) ff1, dq_dps (SqL.of (s8 _ _ hd)) (fd.same s8), dqs_shaped _, dqs_shaped _, _, rfl, ?_⟩
    rw [dats ef1 ed, SeqAt.eqv_refl _ (SeqAt.canLay_of_shaped (dqs_shaped _))]
    refine iteF ?_
    have s58 := s57.trans s8
    refine ⟨_, rfl, _, rfl, _, rfl, _, rfl, kl, al, ks, am, cn, true, true, rfl, by omega, SqL.of (s58 _ _ hk5), SqL.of (s58 _ _ ha5), L5.same s58, fa5.same s58, len, l6, okr cn (by omega), fun f2 l2 H9 s9 n9 h9 ff2 ef2 => ?_⟩
    have s59 := s58.trans s9
    refine ⟨_, rfl, _, _, rfl, rfl, kl, f2, ks, l2, 40 - cn, true, true, by show [V.ref kl, V.ref f2, V.int ((40 : Int) - (cn : Int))] = _; rw [show (40 : Int) - (cn : Int) = ((40 - cn : Nat) : Int) by omega], by omega, SqL.of (s59 _ _ hk5), SqL.of h9, L5.same s59, ff2, rl ef2, l6, fun r hr => by rw [ef2, rounds_add]; exact okR (r + cn) (by omega), fun f3 l3 H10 s10 n10 h10 ff3 ef3 => ?_⟩
    rw [ef2, rounds_add, show 40 - cn + cn = 40 by omega] at ef3
    have s610 := s7.trans (s8.trans (s9.trans s10))
    have s510 := s6.trans s610
    refine ⟨_, rfl, _, _, dq_dps (SqL.of h10) ff3, dq_dps (SqL.of (s610 _ _ h6)) (ff.same s610), dqs_shaped _, dqs_shaped _, _, rfl, ?_⟩
    rw [dats ef3 ef, SeqAt.eqv_refl _ (SeqAt.canLay_of_shaped (dqs_shaped _))]
    refine iteF ?_
    have hk10 := s510 _ _ hk5
    have ha10 := s510 _ _ ha5
    have L10 := L5.same s510
    have fa10 := fa5.same s510
    -- the sums
    have keptP : ∀ r ∈ keptQ (ks.map Kn.q) (am.map (·.2)), Dv (M * 768398400) r ∧ 0 ≤ r ∧ r ≤ ((6 * Bm + 1000000 : Nat) : Int) := fun r hr => by
      obtain ⟨y, hy, k, hk, rfl⟩ := kept_mem hr
      obtain ⟨kn, hkn, rfl⟩ := List.mem_map.mp hk
      have KO := L5 kn hkn
      obtain ⟨c1, c2, c3⟩ := ok.kept hy KO.pd (g := kn.goes.map (·.2)) (mem_q KO.go.pa) KO.go.one
      exact ⟨c1, c2, AmOk.up (a := ok) c3⟩
    have keptM := ok.many keptP (by rw [kept_len lq, List.length_map]; omega)
    have onceM := ok.many (ok.once kq k6 lq) (by rw [once_len, List.length_map]; omega)
    have keptB : ∀ r ∈ keptQ (ks.map Kn.q) (am.map (·.2)), Big r := fun r hr => ok.big (keptP r hr).1 (Nat.dvd_refl _) (keptP r hr).2.1 (keptP r hr).2.2
    refine ⟨_, rfl, _, rfl, kl, al, ks, am, M, Bm, true, true, rfl, SqL.of hk10, SqL.of ha10, L10, fa10, len, l6, ok, fun fo lo H11 s11 n11 h11 ffo efo => ?_⟩
    have bigo : ∀ z ∈ lo, Big z.2 := fun z hz => by
      have mm : z.2 ∈ lo.map (·.2) := List.mem_map.mpr ⟨z, hz, rfl⟩
      rw [efo] at mm
      exact ok.once_big kq k6 lq _ mm
    refine ⟨fo, lo, true, rfl, SqL.of h11, ffo, bigo, by rw [efo]; exact onceM.1, fun z1 H12 s12 hz1 => ?_⟩
    rw [efo] at hz1
    have s1012 := s11.trans s12
    have hk12 := s1012 _ _ hk10
    have ha12 := s1012 _ _ ha10
    have L12 := L10.same s1012
    have fa12 := fa10.same s1012
    refine ⟨_, rfl, _, rfl, al, kl, rz am, rk ks, true, true, rfl, SqL.of ha12, SqL.of hk12, fun D hD => ?_⟩
    refine lc_it (walk_zipB (K := K) (a := al) (b := kl) (xs := rz am) (ys := rk ks) (p := true) (q := true) (n := ks.length) ((rz_len am).trans len) (rk_len ks)) (fun j H' => ∃ m : List Fz, Same H12 H' ∧ H' D = some (.lst (rz m)) ∧ FL K H' m ∧ m.map (·.2) = (keptQ (ks.map Kn.q) (am.map (·.2))).take j)
      ⟨[], same_new hD, upd_same, .nil, rfl⟩ (fun j H' _ ⟨m, s, _⟩ => ⟨SqL.of (s _ _ ha12), SqL.of (s _ _ hk12)⟩) ?_ ?_
    · rintro j v Ha Hb hj ⟨m, sa, hDa, fm, em⟩ ⟨U, x1, y1, rfl, hU, rfl, gx, gy⟩
      obtain ⟨za, ea, rfl⟩ := rz_get gx
      obtain ⟨kj, ekj, rfl⟩ := rk_get gy
      have sU : Same Ha (upd Ha U (.tup [.ref za.1, .ref kj.a])) := same_new hU
      have hU5 : (upd Ha U (.tup [.ref za.1, .ref kj.a])) U = some (.tup [.ref za.1, .ref kj.a]) := upd_same
      generalize upd Ha U (.tup [.ref za.1, .ref kj.a]) = Hb at sU hU5
      have sb := sa.trans sU
      have mk := List.mem_of_getElem? ekj
      have ma := List.mem_of_getElem? ea
      have mq : za.2 ∈ am.map (·.2) := List.mem_map.mpr ⟨za, ma, rfl⟩
      have KO := (L12 kj mk).same sb
      have fz := (fa12 za ma).same sb
      have gl : (kj.goes.map (·.2)).length ≤ 7 := by rw [List.length_map, KO.go.len]; omega
      have sB : Big (zsum (kj.goes.map (·.2))) := by
        have k := parts_add (mem_q KO.go.pa) gl (kj.goes.map (·.2)).length (Nat.le_refl _)
        rw [List.take_length] at k
        exact k
      refine ⟨U, _, rfl, SqT.of hU5, rfl, _, _, rfl, _, _, rfl, rfl, rfl, yesT ?_⟩
      refine ⟨_, rfl, _, rfl, kj.a, _, 1, _, rfl, rfl, KO.at_, at1, za.1, kj.d, za.2, kj.drip, rfl, fz, KO.dr, ok.one mq, part_big KO.pd, trivial, fun z1 Hc sc nc hc => ?_⟩
      have KOc := KO.same sc
      refine ⟨_, rfl, kj.a, _, 2, _, rfl, rfl, KOc.at_, at2, kj.g, kj.goes, false, rfl, KOc.gs, KOc.go.fl, fun z hz => part_big (KO.go.pa z hz), parts_add (mem_q KO.go.pa) gl, fun z2 Hd sd hd' => ?_⟩
      refine ⟨z1, z2, _, _, rfl, hc.same sd, hd', ok.drips_big mq KO.pd, sB, trivial, fun z3 He se ne' he => ?_⟩
      have sae := sU.trans (sc.trans (sd.trans se))
      have hDe := sae _ _ hDa
      have ml : m.length ≤ 6 := by
        have e := congrArg List.length em
        rw [List.length_map, List.length_take, kept_len lq, List.length_map] at e
        omega
      refine ⟨_, hDe, by rw [rz_len]; exact small' (by omega), m ++ [(z3, za.2 * kj.drip * zsum (kj.goes.map (·.2)))], Same.put (sa.trans sae) hD, by rw [upd_same, rz_snoc], FL.put (FL.snoc (fm.same sae) he) hDe, ?_⟩
      have cg := kept_get (ks := ks.map Kn.q) (k := kj.q) (rz_q ea) (by rw [List.getElem?_map, ekj] <;> rfl)
      rw [List.map_append, em, take_one cg] <;> rfl
    rintro H13 ⟨m, s13, hD13, fm, em⟩
    have em' : m.map (·.2) = keptQ (ks.map Kn.q) (am.map (·.2)) := by
      rw [em, ← kl', ← kept_len lq, List.take_length]
    have bigm : ∀ z ∈ m, Big z.2 := fun z hz => by
      have mm : z.2 ∈ m.map (·.2) := List.mem_map.mpr ⟨z, hz, rfl⟩
      rw [em'] at mm
      exact keptB _ mm
    have s1013 := s1012.trans s13
    have hk13 := s1013 _ _ hk10
    refine ⟨_, rfl, _, rfl, D, m, true, rfl, SqL.of hD13, fm, bigm, by rw [em']; exact keptM.1, fun z2 H14 s14 hz2 => ?_⟩
    rw [em'] at hz2
    have s1014 := s1013.trans s14
    have hk14 := s1014 _ _ hk10
    refine ⟨_, rfl, kl, rfl, ⟨_, SqL.of hk14⟩, fun D2 hD2 => ?_⟩
    refine lc_it (walk_list (K := K) (a := kl) (xs := rk ks)) (fun j H' => Same H14 H' ∧ H' D2 = some (.lst (((ks.map (·.fresh)).take j).map V.int))) ⟨same_new hD2, upd_same⟩ (fun j H' _ z => SqL.of (z.1 _ _ hk14)) ?_ ?_
    · rintro j v Ha Hb hj ⟨sa, hDa⟩ ⟨rfl, hv⟩
      obtain ⟨kj, ekj, rfl⟩ := rk_get hv
      have KO := (L10 kj (List.mem_of_getElem? ekj)).same (s1014.trans sa)
      refine ⟨rfl, yesT ?_⟩
      refine ⟨_, rfl, kj.a, _, 0, _, rfl, rfl, KO.at_, at0, ?_⟩
      rw [rk_len] at hj
      refine ⟨_, hDa, by rw [List.length_map, List.length_take, List.length_map]; exact small' (by omega), Same.put sa hD2, ?_⟩
      have gf : (ks.map (·.fresh))[j]? = some kj.fresh := by rw [List.getElem?_map, ekj] <;> rfl
      rw [upd_same, take_one gf, List.map_append] <;> rfl
    rintro H15 ⟨s15, hD15⟩
    have efr : ((ks.map (·.fresh)).take (rk ks).length) = ks.map (·.fresh) := by
      rw [rk_len, ← List.length_map (as := ks) (·.fresh), List.take_length]
    rw [efr] at hD15
    refine ⟨D2, ks.map (·.fresh), true, rfl, SqL.of hD15, rfl, fun t H16 s16 n16 h16 => ?_⟩
    have fsum : (ks.map (·.fresh)).sum = ((ks.map Kn.q).map (·.fresh)).sum := by rw [List.map_map] <;> rfl
    have fb := fresh_sum L5
    have s1216 := s13.trans (s14.trans (s15.trans s16))
    refine ⟨z2, t, _, ((ks.map (·.fresh)).sum : Int), rfl, hz2.same (s15.trans s16), FrQ.int h16, keptM.2.2.2, Sz.up (n := 30) (Sz.int (by omega) (by decide)) (by decide), trivial, fun z3 H17 s17 n17 h17 => ?_⟩
    refine ⟨_, _, (hz1.same (s1216.trans s17)).dp, h17.dp, rfl, rfl, _, rfl, ?_⟩
    have same := once_sum (ks := ks.map Kn.q) (qs := am.map (·.2)) O.len
    rw [← fsum] at same
    rw [eqv_dq, decide_eq_true same]
    refine iteF ?_
    have s1017 := s1012.trans (s1216.trans s17)
    have hk17 := s1017 _ _ hk10
    have L17 := L10.same s1017
    have s517 := s510.trans s1017
    -- what is lost
    refine ⟨_, rfl, kl, ks, rfl, hk17, L17, l6, fun lo' P H18 s18 n18 h18 GP => ⟨rfl, fun le H19 s19 n19 h19 => ?_⟩⟩
    refine ⟨dpi (psF P ks.length), .list [], ri_dp (SqL.of (s19 _ _ h18)), .lst (SqL.of h19) .nil, dpi_shaped _, rfl, _, rfl, ?_⟩
    have s519 := s517.trans (s18.trans s19)
    have fin : ∀ {Hx : Hp}, Sm H5 Hx → Fs p H Hx := fun {Hx} s => (Fs.of F04).trans (.sm (s5.trans s))
    by_cases e : psF P ks.length = []
    · rw [e]
      refine iteF ?_
      have hk19 := s519 _ _ hk5
      have L19 := L5.same s519
      refine ⟨_, rfl, kl, ks, true, P, rfl, SqL.of hk19, L19, by omega, l6, GP, fun pn => absurd e pn, fun _ f l H20 s20 n20 h20 fl el ⟨y, S⟩ => ?_⟩
      obtain ⟨M2, B2', ok2⟩ := sol_am (ks := ks.map Kn.q) O (by rw [kl']; exact S)
      have once := sol_once (ks := ks.map Kn.q) O (by rw [kl']; exact S)
      rw [← el] at ok2 once
      have ll : l.length = ks.length := by
        have e := congrArg List.length el
        rw [List.length_map, sol_len, kl'] at e
        exact e
      have s520 := s519.trans s20
      refine ⟨_, rfl, _, rfl, kl, f, ks, l, M2, B2', rfl, SqL.of (s520 _ _ hk5), SqL.of h20, L5.same s520, fl, ll, l6, ok2, fun g lg H21 s21 n21 h21 flg elg => ?_⟩
      have h21f := s21 _ _ h20
      have fl21 := fl.same s21
      refine ⟨_, rfl, _, _, dq_dps (SqL.of h21) flg, dq_dps (SqL.of h21f) fl21, dqs_shaped _, dqs_shaped _, _, rfl, ?_⟩
      rw [dqs_same (elg.trans once), SeqAt.eqv_refl _ (SeqAt.canLay_of_shaped (dqs_shaped _))]
      refine iteT ?_
      have s521 := s520.trans s21
      refine ⟨_, rfl, _, rfl, kl, f, ks, l, M2, B2', rfl, SqL.of (s521 _ _ hk5), L5.same s521, l6, h21f, fl21, ll, ok2, (hT5.same s521) _ (by simp [All.Ps]), fun H22 s22 => ?_⟩
      rw [once]
      have es : PyData.eqv (.list ((l.map (·.2)).map dq)) (.list ((l.map (·.2)).map dq)) = true := by
        rw [← dqs_map]
        exact SeqAt.eqv_refl _ (SeqAt.canLay_of_shaped (dqs_shaped _))
      rw [es]
      exact ⟨_, _, rfl, rfl, q H22 (fin ((Sm.of s521).trans s22))⟩
    · have ne : PyData.eqv (dpi (psF P ks.length)) (.list []) = false := by
        cases c : psF P ks.length with
        | nil => exact absurd c e
        | cons a r => rfl
      rw [ne]
      exact iteT (q _ (fin (.of s519)))

end
end KR
namespace KR
open PySem PySem.Spec PyProof.Rows L2
section
variable {P : Program} {w : World} {K : PySem.W.Frag} {mg : Str → Option Value} {base : Heap}
theorem sz_sold {K : PySem.W.Frag} {H : Hp} {ks : List Kn} {am : List Fz} {n : Nat} (O : KsOk (ks.map Kn.q)) (ha : ∀ z ∈ am, AmS z.2) (la : am.length = ks.length) (L : KnL K H n ks) : Sz 1000 (zsum (soldQ (ks.map Kn.q) (am.map (·.2)))) := by
  have lq : (am.map (·.2)).length = (ks.map Kn.q).length := by rw [List.length_map, List.length_map, la]
  obtain ⟨M, m1, ok⟩ := am0 O (mem_q ha) lq
  have all := sold_all L ok
  have len : (soldQ (ks.map Kn.q) (am.map (·.2))).length ≤ 6 := by
    have l6 := O.l6
    have e : (soldQ (ks.map Kn.q) (am.map (·.2))).length = (ks.map Kn.q).length := zw_len lq
    omega
  have s : zsum (soldQ (ks.map Kn.q) (am.map (·.2))) ≤ ((6 * (6 * 1000 + 1000000) : Nat) : Int) := by
    have z := zsum_le fun r hr => (all r hr).2.2
    rw [← Rat.intCast_mul] at z
    refine Rat.le_trans z (Rat.intCast_le_intCast.mpr ?_)
    have := Nat.mul_le_mul_right (6 * 1000 + 1000000) len
    rw [← Int.natCast_mul]
    omega
  exact (Dv.all fun r hr => (all r hr).1).szN (Nat.mul_pos ok.hM (by decide)) (zsum_nn fun r hr => (all r hr).2.1) s (by decide) (Nat.lt_of_le_of_lt (Nat.mul_le_mul_left _ (Nat.mul_le_mul_right _ m1)) (by decide +kernel : 6 * (6 * 1000 + 1000000) * (60 ^ 6 * 768398400) < 2 ^ 1000))
def dpt (ps : List Nat) : PyData := .tuple ((ps.map fun i : Nat => (i : Int)).map PyData.int)
theorem dpt_at {K : PySem.W.Frag} {H : Hp} {a : Addr} {ps : List Nat} (h : H a = some (.tup (ri ps))) : Dp K H (.ref a) (dpt ps) := .tup (SqT.of h) (ints_dps ps)
def tillD : V → PyData
  | .int i => .int i
  | _ => .none
def tillG (ks : List Kn) (am : List Fz) : Nat → Rat := fun r => gapQ (roundsQ (ks.map Kn.q) r (am.map (·.2))) (solQ (ks.map Kn.q))
def askB (ks : List Kn) (am : List Fz) : Bool := PyData.eqv (.list ((onceQ (ks.map Kn.q) (onceQ (ks.map Kn.q) (am.map (·.2)))).map dq)) (.list ((onceQ (ks.map Kn.q) (am.map (·.2))).map dq))
/-- what is told of kinds and amounts -/
def askA (ks : List Kn) (am : List Fz) : List PyData := [.list ((onceQ (ks.map Kn.q) (am.map (·.2))).map dq), .list ((roundsQ (ks.map Kn.q) 3 (am.map (·.2))).map dq), .list ((loavesQ (ks.map Kn.q) (am.map (·.2))).map dq), dq (zsum (soldQ (ks.map Kn.q) (am.map (·.2)))), dq (gapQ (am.map (·.2)) (onceQ (ks.map Kn.q) (am.map (·.2)))),
  .bool (askB ks am)]
def askD (ks : List Kn) (am : List Fz) (ps : List Nat) (v : V) : List PyData := askA ks am ++ (if ps = [] then [.list ((solQ (ks.map Kn.q)).map dq), tillD v, .none] else [dpt ps])
/-- a place that is new since -/
def Nw (H0 : Hp) (a : Addr) : Prop := ∃ Hm, Sm H0 Hm ∧ Hm a = none
theorem Nw.of {H0 H : Hp} {a : Addr} (s : Sm H0 H) (n : H a = none) : Nw H0 a := ⟨H, s, n⟩
theorem Nw.less {H00 H0 : Hp} {a : Addr} (h : Nw H0 a) (s : Sm H00 H0) : Nw H00 a := h.elim fun Hm z => ⟨Hm, s.trans z.1, z.2⟩
theorem Nw.ne {H0 : Hp} {a q : Addr} {ys : List V} (h : Nw H0 a) (e : H0 q = some (.lst ys)) : a ≠ q := fun z => by
  obtain ⟨Hm, s, n⟩ := h
  have k := s.lst e
  rw [← z, n] at k
  cases k
theorem Nw.tup {H0 : Hp} {a q : Addr} {ys : List V} (h : Nw H0 a) (e : H0 q = some (.tup ys)) : a ≠ q := fun z => by
  obtain ⟨Hm, s, n⟩ := h
  have k := s.keep _ _ e nofun
  rw [← z, n] at k
  cases k
theorem Sm.putN {H0 H : Hp} {q : Addr} {ys zs : List V} (s : Sm H0 H) (n : Nw H0 q) (hq : H q = some (.lst ys)) : Sm H0 (upd H q (.lst zs)) := by
  obtain ⟨Hm, m, hn⟩ := n
  refine ⟨fun b u e nt => ?_, fun b tb => ?_⟩
  · have ne : b ≠ q := fun z => by
      have k := m.keep b u e nt
      rw [z, hn] at k
      cases k
    rw [upd_ne ne]
    exact s.keep b u e nt
  · obtain ⟨q2, e2, t2⟩ := s.tab b tb
    have ne : b ≠ q := fun z => by
      rw [z, hq] at e2
      cases e2
    exact ⟨q2, by rw [upd_ne ne]; exact e2, t2⟩
/-- a part of what is told -/
inductive Elm (K : PySem.W.Frag) (H0 H : Hp) : V → PyData → Option (List Fz) → Prop
  | l {a : Addr} {l : List Fz} (h : H a = some (.lst (rz l))) (f : FL K H l) (n : Nw H0 a) (l6 : l.length ≤ 6) : Elm K H0 H (.ref a) (.list (l.map fun z => dq z.2)) (some l)
  | t {a : Addr} {xs : List V} {ds : List PyData} (sq : SqT K H a xs) (dp : DpAll K H xs ds) (r : ∀ x ∈ xs, ∃ i, x = V.int i) : Elm K H0 H (.ref a) (.tuple ds) none
  | b (b : Bool) : Elm K H0 H (.bl b) (.bool b) none
  | i (i : Int) : Elm K H0 H (.int i) (.int i) none
  | n : Elm K H0 H .non .none none
theorem ints_all {K : PySem.W.Frag} {H H' : Hp} : ∀ {xs : List V} {ds : List PyData}, DpAll K H xs ds → (∀ x ∈ xs, ∃ i, x = V.int i) → DpAll K H' xs ds
  | _, _, .nil, _ => .nil
  | _, _, .cons h t, r => by
    obtain ⟨i, rfl⟩ := r _ List.mem_cons_self
    cases h
    exact .cons (.int i) (ints_all t fun x hx => r x (List.mem_cons_of_mem _ hx))
theorem Elm.dp {K : PySem.W.Frag} {H0 H : Hp} {x : V} {d : PyData} {o : Option (List Fz)} (h : Elm K H0 H x d o) : Dp K H x d := by
  cases h with
  | l h f n => exact dq_dps (SqL.of h) f
  | t sq dp r => exact .tup sq dp
  | b b => exact .bl b
  | i i => exact .int i
  | n => exact .non
theorem Elm.sm {K : PySem.W.Frag} {H0 H H' : Hp} {x : V} {d : PyData} {o : Option (List Fz)} (h : Elm K H0 H x d o) (s : Sm H H') : Elm K H0 H' x d o := by
  cases h with
  | l h f n l6 => exact .l (s.lst h) (f.sm s) n l6
  | t sq dp r => exact .t (s.tup sq) (ints_all dp r) r
  | b b => exact .b b
  | i i => exact .i i
  | n => exact .n
/-- a list is written that is none of it -/
theorem Elm.put {K : PySem.W.Frag} {H0 H : Hp} {x : V} {d : PyData} {o : Option (List Fz)} {q : Addr} {ys zs : List V} (h : Elm K H0 H x d o) (hq : H q = some (.lst ys)) (ne : o ≠ none → x ≠ .ref q) : Elm K H0 (upd H q (.lst zs)) x d o := by
  cases h with
  | l h f n l6 => exact .l (by rw [upd_ne fun e => ne (fun z => nomatch z) (by rw [e])]; exact h) (FL.put f hq) n l6
  | t sq dp r => exact .t (sqT_frL sq hq fr_upd) (ints_all dp r) r
  | b b => exact .b b
  | i i => exact .i i
  | n => exact .n
structure Elms (K : PySem.W.Frag) (H0 H : Hp) (xs : List V) (ds : List PyData) (os : List (Option (List Fz))) : Prop where
  lx : xs.length = ds.length
  lo : xs.length = os.length
  at_ : ∀ (i : Nat) (x : V) (d : PyData) (o : Option (List Fz)), xs[i]? = some x → ds[i]? = some d → os[i]? = some o → Elm K H0 H x d o
  one : ∀ (i j : Nat) (x : V) (l l' : List Fz), xs[i]? = some x → os[i]? = some (some l) → xs[j]? = some x → os[j]? = some (some l') → i = j
/-- none of its lists is q -/
def Off (q : Addr) (xs : List V) (os : List (Option (List Fz))) : Prop := ∀ (i : Nat) (l : List Fz), os[i]? = some (some l) → xs[i]? ≠ some (.ref q)
theorem Off.app {q : Addr} {xs : List V} {os : List (Option (List Fz))} {x : V} (h : Off q xs os) (lo : xs.length = os.length) : Off q (xs ++ [x]) (os ++ [none]) := fun i l e1 e2 => by
  by_cases c : i < os.length
  · rw [List.getElem?_append_left c] at e1
    rw [List.getElem?_append_left (by omega)] at e2
    exact h i l e1 e2
  · have lt := (List.getElem?_eq_some_iff.mp e1).1
    rw [List.length_append, List.length_singleton] at lt
    obtain rfl : i = os.length := by omega
    rw [List.getElem?_append_right (Nat.le_refl _), Nat.sub_self] at e1
    cases e1
theorem Off.lst {q a : Addr} {xs : List V} {os : List (Option (List Fz))} {o : Option (List Fz)} (h : Off q xs os) (lo : xs.length = os.length) (ne : a ≠ q) : Off q (xs ++ [.ref a]) (os ++ [o]) := fun i l e1 e2 => by
  by_cases c : i < os.length
  · rw [List.getElem?_append_left c] at e1
    rw [List.getElem?_append_left (by omega)] at e2
    exact h i l e1 e2
  · have lt := (List.getElem?_eq_some_iff.mp e1).1
    rw [List.length_append, List.length_singleton] at lt
    obtain rfl : i = xs.length := by omega
    rw [List.getElem?_append_right (Nat.le_refl _), Nat.sub_self] at e2
    injection e2 with e2
    injection e2 with e2
    exact ne e2
theorem Elms.nil {K : PySem.W.Frag} {H0 H : Hp} : Elms K H0 H [] [] [] := ⟨rfl, rfl, fun i x d o h => by simp at h, fun i j x l l' h => by simp at h⟩
theorem Elms.get {K : PySem.W.Frag} {H0 H : Hp} {xs : List V} {ds : List PyData} {os : List (Option (List Fz))} (h : Elms K H0 H xs ds os) {i : Nat} {x : V} {o : Option (List Fz)} (e1 : xs[i]? = some x) (e2 : os[i]? = some o) : ∃ d, Elm K H0 H x d o := by
  have lt := (List.getElem?_eq_some_iff.mp e1).1
  exact ⟨_, h.at_ i x (ds[i]'(by have := h.lx; omega)) o e1 (List.getElem?_eq_getElem _) e2⟩
theorem Elms.dps {K : PySem.W.Frag} {H0 H : Hp} {xs : List V} {ds : List PyData} {os : List (Option (List Fz))} (h : Elms K H0 H xs ds os) : DpAll K H xs ds := dps_of h.lx fun i x d e1 e2 => by
  have lt := (List.getElem?_eq_some_iff.mp e1).1
  exact (h.at_ i x d (os[i]'(by have := h.lo; omega)) e1 e2 (List.getElem?_eq_getElem _)).dp
theorem Elms.sm {K : PySem.W.Frag} {H0 H H' : Hp} {xs : List V} {ds : List PyData} {os : List (Option (List Fz))} (h : Elms K H0 H xs ds os) (s : Sm H H') : Elms K H0 H' xs ds os := ⟨h.lx, h.lo, fun i x d o a b c => (h.at_ i x d o a b c).sm s, h.one⟩
theorem Elms.put {K : PySem.W.Frag} {H0 H : Hp} {xs : List V} {ds : List PyData} {os : List (Option (List Fz))} {q : Addr} {ys zs : List V} (h : Elms K H0 H xs ds os) (hq : H q = some (.lst ys)) (n : Off q xs os) : Elms K H0 (upd H q (.lst zs)) xs ds os :=
  ⟨h.lx, h.lo, fun i x d o a b c => (h.at_ i x d o a b c).put hq fun no e => by
    cases o with
    | none => exact no rfl
    | some l => exact n i l c (by rw [a, e]), h.one⟩
theorem Elms.old {K : PySem.W.Frag} {H0 H : Hp} {xs : List V} {ds : List PyData} {os : List (Option (List Fz))} (h : Elms K H0 H xs ds os) {q : Addr} (n : H q = none) : Off q xs os := fun i l e1 e2 => by
  obtain ⟨d, k⟩ := h.get e2 e1
  cases k with
  | l h _ _ => rw [n] at h; cases h
theorem Elms.ahead {K : PySem.W.Frag} {H0 H : Hp} {xs : List V} {ds : List PyData} {os : List (Option (List Fz))} (h : Elms K H0 H xs ds os) {q : Addr} {ys : List V} (n : H0 q = some (.lst ys)) : Off q xs os := fun i l e1 e2 => by
  obtain ⟨d, k⟩ := h.get e2 e1
  cases k with
  | l _ _ h _ => exact h.ne n rfl
theorem Elms.less {K : PySem.W.Frag} {H00 H0 H : Hp} {xs : List V} {ds : List PyData} {os : List (Option (List Fz))} (h : Elms K H0 H xs ds os) (s : Sm H00 H0) : Elms K H00 H xs ds os := ⟨h.lx, h.lo, fun i x d o a b c => by
  cases h.at_ i x d o a b c with
  | l h f n l6 => exact .l h f (n.less s) l6
  | t sq dp r => exact .t sq dp r
  | b b' => exact .b b'
  | i i' => exact .i i'
  | n => exact .n, h.one⟩
theorem Elms.app {K : PySem.W.Frag} {H0 H : Hp} {xs : List V} {ds : List PyData} {os : List (Option (List Fz))} {x : V} {d : PyData} {o : Option (List Fz)} (h : Elms K H0 H xs ds os) (e : Elm K H0 H x d o) (n : o ≠ none → ∀ (i : Nat) (l : List Fz), xs[i]? = some x → os[i]? ≠ some (some l)) : Elms K H0 H (xs ++ [x]) (ds ++ [d]) (os ++ [o]) := by
  have lx := h.lx
  have lo := h.lo
  have cs : ∀ {α : Type} {l : List α} {y z : α} {i : Nat}, (l ++ [y])[i]? = some z → (i < l.length ∧ l[i]? = some z) ∨ (i = l.length ∧ z = y) := fun {α l y z i} e => by
    by_cases c : i < l.length
    · rw [List.getElem?_append_left c] at e
      exact .inl ⟨c, e⟩
    · have lt := (List.getElem?_eq_some_iff.mp e).1
      rw [List.length_append, List.length_singleton] at lt
      obtain rfl : i = l.length := by omega
      rw [List.getElem?_append_right (Nat.le_refl _), Nat.sub_self] at e
      exact .inr ⟨rfl, (Option.some.inj e).symm⟩
  refine ⟨by rw [List.length_append, List.length_append, lx] <;> rfl, by rw [List.length_append, List.length_append, lo] <;> rfl, fun i y c p e1 e2 e3 => ?_, fun i j y l l' e1 e2 e3 e4 => ?_⟩
  · rcases cs e1 with ⟨a1, a2⟩ | ⟨a1, a2⟩
    · rcases cs e2 with ⟨b1, b2⟩ | ⟨b1, _⟩
      · rcases cs e3 with ⟨c1, c2⟩ | ⟨c1, _⟩
        · exact h.at_ i y c p a2 b2 c2
        · omega
      · omega
    · rcases cs e2 with ⟨b1, _⟩ | ⟨_, b2⟩
      · omega
      · rcases cs e3 with ⟨c1, _⟩ | ⟨_, c2⟩
        · omega
        · rw [a2, b2, c2]
          exact e
  · rcases cs e1 with ⟨a1, a2⟩ | ⟨a1, a2⟩
    · rcases cs e2 with ⟨b1, b2⟩ | ⟨b1, _⟩
      · rcases cs e3 with ⟨c1, c2⟩ | ⟨c1, c2⟩
        · rcases cs e4 with ⟨d1, d2⟩ | ⟨d1, _⟩
          · exact h.one i j y l l' a2 b2 c2 d2
          · omega
        · rcases cs e4 with ⟨d1, _⟩ | ⟨_, d2⟩
          · omega
          · subst c2
            exact absurd b2 (n (by rw [← d2]; exact fun z => nomatch z) i l a2)
      · omega
    · rcases cs e2 with ⟨b1, _⟩ | ⟨_, b2⟩
      · omega
      · rcases cs e3 with ⟨c1, c2⟩ | ⟨c1, _⟩
        · rcases cs e4 with ⟨d1, d2⟩ | ⟨d1, _⟩
          · subst a2
            exact absurd d2 (n (by rw [← b2]; exact fun z => nomatch z) j l' c2)
          · omega
        · omega
theorem Elms.lst {K : PySem.W.Frag} {H0 H : Hp} {xs : List V} {ds : List PyData} {os : List (Option (List Fz))} {a : Addr} {l : List Fz} (h : Elms K H0 H xs ds os) (e : Elm K H0 H (.ref a) (.list (l.map fun z => dq z.2)) (some l)) (n : Off a xs os) : Elms K H0 H (xs ++ [.ref a]) (ds ++ [.list (l.map fun z => dq z.2)]) (os ++ [some l]) :=
  h.app e fun _ i l' e1 e2 => n i l' e2 e1
theorem Elms.oth {K : PySem.W.Frag} {H0 H : Hp} {xs : List V} {ds : List PyData} {os : List (Option (List Fz))} {x : V} {d : PyData} (h : Elms K H0 H xs ds os) (e : Elm K H0 H x d none) : Elms K H0 H (xs ++ [x]) (ds ++ [d]) (os ++ [none]) := h.app e fun z => absurd rfl z
theorem frac_elm {K : PySem.W.Frag} {H0 H : Hp} {a : Addr} {q : Rat} (h : FrQ K H a q) : Elm K H0 H (.ref a) (dq q) none := .t h (.cons (.int _) (.cons (.int _) .nil)) fun x hx => by
  simp only [List.mem_cons, List.not_mem_nil, or_false] at hx
  rcases hx with e | e <;> exact ⟨_, e⟩
def sp_l_asked (K : PySem.W.Frag) (Ps : List Addr) : Sp := fun vs H Q _ => ∃ (kl al : Addr) (ks : List Kn) (am : List Fz) (P0 : Nat → Bool), vs = [.ref kl, .ref al] ∧ H kl = some (.lst (rk ks)) ∧ H al = some (.lst (rz am)) ∧ KnL K H ks.length ks ∧ FL K H am ∧ am.length = ks.length ∧ 1 ≤ ks.length ∧ ks.length ≤ 4 ∧ (∀ z ∈ am, AmS z.2) ∧ Great (ks.map Kn.q) P0 ∧ Tbs Ps H ∧
  ∀ (f : Addr) (xs : List V) (os : List (Option (List Fz))) (v : V) (H' : Hp), Sm H H' → Nw H f → H' f = some (.lst xs) → Elms K H H' xs (askD ks am (psF P0 ks.length) v) os → Off f xs os → xs.length ≤ 9 → (psF P0 ks.length = [] → TillV (tillG ks am) (rq 1 7) v ∧ ∃ y, Sta 6000000 ks.length 0 ks.length (initA (ks.map Kn.q)) y) → Q (.ref f) H'
theorem ok_l_asked (T : All K mg) (B : Tabs T base) : FnOk P w K mg base CX0 8 T.f_l_asked T.fd_l_asked ["_law_kinds_here", "_law_amounts_here"] (sp_l_asked K T.Ps) := by
  refine T.d_l_asked.fn.ok sc_l_asked (fun vs H Q E h => ?_) (fun cdv A outer s H vs Q E hr h => ?_)
  · obtain ⟨kl, al, ks, am, P0, rfl, _⟩ := h
    rfl
  · obtain ⟨kl, al, ks, am, P0, rfl, hk, ha, L, fa, la, l1, l4, aa, G0, hT, q⟩ := h
    refine ⟨_, (pss_cons (ps_set (i := 2) sc_l_asked.nd rfl (by first | exact Or.inl rfl | exact Or.inr rfl) (pe_lstI (pa_cons (pe_callTy (listI (K := K) rfl) (by rfl) T.b_list (by decide +kernel) (pa_cons (pv 0) pa_nil)) (pa_cons (pe_callTy (listI (K := K) rfl) (by rfl) T.b_list (by decide +kernel) (pa_cons (pv 1) pa_nil)) pa_nil))))
      (pss_cons (ps_set (i := 3) sc_l_asked.nd rfl (by first | exact Or.inl rfl | exact Or.inr rfl) (pe_lstI (pa_cons (pe_call (ok_p_walked_once T) (hr.mono (by decide)) (by rfl) T.d_p_walked_once.mg T.d_p_walked_once.fn.kp T.d_p_walked_once.b .nil pass0 (pa_cons (pe_ix (ixL (K := K) rfl) (pv 2) pe_int (fun _ _ => rfl)) (pa_cons (pe_ix (ixL (K := K) rfl) (pv 2) pe_int (fun _ _ => rfl)) pa_nil))) (pa_cons (pe_call (ok_p_walked_on T) (hr.mono (by decide)) (by rfl) T.d_p_walked_on.mg T.d_p_walked_on.fn.kp T.d_p_walked_on.b .nil pass0 (pa_cons (pe_ix (ixL (K := K) rfl) (pv 2) pe_int (fun _ _ => rfl)) (pa_cons (pe_ix (ixL (K := K) rfl) (pv 2) pe_int (fun _ _ => rfl)) (pa_cons pe_int pa_nil)))) (pa_cons (pe_call (ok_p_loaves_of T) (hr.mono (by decide)) (by rfl) T.d_p_loaves_of.mg T.d_p_loaves_of.fn.kp T.d_p_loaves_of.b .nil pass0 (pa_cons (pe_ix (ixL (K := K) rfl) (pv 2) pe_int (fun _ _ => rfl)) (pa_cons (pe_ix (ixL (K := K) rfl) (pv 2) pe_int (fun _ _ => rfl)) pa_nil))) pa_nil)))))
      (pss_cons (ps_set (i := 3) sc_l_asked.nd rfl (by first | exact Or.inl rfl | exact Or.inr rfl) (pe_op op_catI (pv 3) (pe_lstI (pa_cons (pe_call (ok_p_sold_of T) (hr.mono (by decide)) (by rfl) T.d_p_sold_of.mg T.d_p_sold_of.fn.kp T.d_p_sold_of.b .nil pass0 (pa_cons (pe_ix (ixL (K := K) rfl) (pv 2) pe_int (fun _ _ => rfl)) (pa_cons (pe_ix (ixL (K := K) rfl) (pv 2) pe_int (fun _ _ => rfl)) pa_nil))) (pa_cons (pe_call (ok_p_gap_between T) (hr.mono (by decide)) (by rfl) T.d_p_gap_between.mg T.d_p_gap_between.fn.kp T.d_p_gap_between.b .nil pass0 (pa_cons (pe_ix (ixL (K := K) rfl) (pv 2) pe_int (fun _ _ => rfl)) (pa_cons (pe_ix (ixL (K := K) rfl) (pv 3) pe_int (fun _ _ => rfl)) pa_nil))) (pa_cons (pe_call (ok_p_shows_steady T B) (hr.mono (by decide)) (by rfl) T.d_p_shows_steady.mg T.d_p_shows_steady.fn.kp T.d_p_shows_steady.b .nil pass0 (pa_cons (pe_ix (ixL (K := K) rfl) (pv 2) pe_int (fun _ _ => rfl)) (pa_cons (pe_ix (ixL (K := K) rfl) (pv 3) pe_int (fun _ _ => rfl)) pa_nil))) pa_nil))))))
      (pss_cons (ps_set (i := 4) sc_l_asked.nd rfl (by first | exact Or.inl rfl | exact Or.inr rfl) pe_non)
      (pss_cons (ps_try_keep (i := 5) (tb := fun W => tSeq (tDrop (tBM K "list" rAppend (tVar 3) (tCons (tCallS (sp_p_steady_state K T.C_NoSteady) (WE W) (tCons (tOp (rIxL K) (tVar 2) (tC (.int 0))) tNil)) tNil))) (tDrop (tBM K "list" rAppend (tVar 3) (tCons (tCallS (sp_p_rounds_till K T.C_NoSteady) (WE W) (tCons (tOp (rIxL K) (tVar 2) (tC (.int 0))) (tCons (tOp (rIxL K) (tVar 2) (tC (.int 1))) (tCons (tTupI (tCons (tC (.int 1)) (tCons (tC (.int 7)) tNil))) tNil)))) tNil)))) (ts := fun a cls d => tAsg (tVar 5) (gName 4)) (Wo := fun _ _ _ _ => False) rfl rfl sc_l_asked.nd rfl rfl ⟨rfl, by decide, Or.inl T.g_NoSteady⟩ takes0 (fun W pn xe tk _ => pss_cons (ps_expr (pe_bm PySem.F.plainAttrs_list PySem.F.slot_list_append PySem.F.type_list_append mt_append (pv 3) (pa_cons (pe_callS (ok_p_steady_state T) (hr.mono (by decide)) (by rfl) T.d_p_steady_state.mg T.d_p_steady_state.fn.kp T.d_p_steady_state.b (fun σ => passAt tk σ) (pa_cons (pe_ix (ixL (K := K) rfl) (pv 2) pe_int (fun _ _ => rfl)) pa_nil)) pa_nil))) (pss_one (ps_expr (pe_bm PySem.F.plainAttrs_list PySem.F.slot_list_append PySem.F.type_list_append mt_append (pv 3) (pa_cons (pe_callS (ok_p_rounds_till T) hr (by rfl) T.d_p_rounds_till.mg T.d_p_rounds_till.fn.kp T.d_p_rounds_till.b (fun σ => passAt tk σ) (pa_cons (pe_ix (ixL (K := K) rfl) (pv 2) pe_int (fun _ _ => rfl)) (pa_cons (pe_ix (ixL (K := K) rfl) (pv 2) pe_int (fun _ _ => rfl)) (pa_cons (pe_tupI (pa_cons pe_int (pa_cons pe_int pa_nil))) pa_nil)))) pa_nil))))) (fun a ob cls d pn z f => pss_one (ps_set (i := 4) sc_l_asked.nd rfl (Or.inl rfl) (pv 5))))
      (pss_cons (ps_expr (pe_bm PySem.F.plainAttrs_list PySem.F.slot_list_append PySem.F.type_list_append mt_append (pv 3) (pa_cons (pe_ifExp (pt_cmpR op_isN (pv 4) pe_non (nomark _)) pe_non (pe_what rfl (pv 4))) pa_nil)))
      (pss_cons (ps_expr (pe_bm0 PySem.F.plainAttrs_list PySem.F.slot_list_clear PySem.F.type_list_clear mt_clear (pe_ix (ixL (K := K) rfl) (pv 2) pe_int (fun _ _ => rfl))))
      (pss_cons (ps_expr (pe_bm0 PySem.F.plainAttrs_list PySem.F.slot_list_clear PySem.F.type_list_clear mt_clear (pe_ix (ixL (K := K) rfl) (pv 2) pe_int (fun _ _ => rfl))))
      (pss_one (ps_ret (pv 3))))))))))), ?_⟩
    have l6 : ks.length ≤ 6 := by omega
    have O := L.ks l6
    have kl' : (ks.map Kn.q).length = ks.length := List.length_map _
    have lq : (am.map (·.2)).length = (ks.map Kn.q).length := by rw [List.length_map, List.length_map, la]
    have kq := kq_mem L
    have okR := am_rounds kq (by omega) lq (mem_q aa)
    have okr : ∀ n, n ≤ 41 → ∀ r, r < n → ∃ M B, AmOk M B (roundsQ (ks.map Kn.q) r (am.map (·.2))) := fun n hn r hr => okR r (by omega)
    obtain ⟨M, Bm, ok⟩ := okR 0 (by decide)
    have ok : AmOk M Bm (am.map (·.2)) := ok
    obtain ⟨M1, B1, ok1⟩ := okR 1 (by decide)
    have ok1 : AmOk M1 B1 (onceQ (ks.map Kn.q) (am.map (·.2))) := ok1
    obtain ⟨gok, gsz⟩ := gap_first O (mem_q aa) lq
    have lenOf : ∀ {l : List Fz} {qs : List Rat}, l.map (·.2) = qs → qs.length = (ks.map Kn.q).length → l.length = ks.length := fun {l qs} e z => by
      have e := congrArg List.length e
      rw [List.length_map, z, kl'] at e
      exact e
    -- lists of its own
    refine ⟨_, rfl, kl, _, rfl, .inl (SqL.of hk), fun k' H1 s1 n1 h1 => ?_⟩
    refine ⟨_, rfl, al, _, rfl, .inl (SqL.of (s1 _ _ ha)), fun a' H2 s2 n2 h2 => ⟨rfl, fun ow H3 s3 n3 h3 => ?_⟩⟩
    have s03 := s1.trans (s2.trans s3)
    have hk3 := (s2.trans s3) _ _ h1
    have ha3 := s3 _ _ h2
    have L3 := L.same s03
    have fa3 := fa.same s03
    have la' : am.length = ks.length := la
    refine ⟨_, rfl, ow, _, 0, _, rfl, rfl, SqL.of h3, at0, _, rfl, ow, _, 1, _, rfl, rfl, SqL.of h3, at1, k', a', ks, am, M, Bm, true, true, rfl, SqL.of hk3, SqL.of ha3, L3, fa3, la, l6, ok, fun f1 l1' H4 s4 n4 h4 fl1 el1 => ?_⟩
    have h34 := s4 _ _ h3
    refine ⟨_, rfl, ow, _, 0, _, rfl, rfl, SqL.of h34, at0, _, rfl, ow, _, 1, _, rfl, rfl, SqL.of h34, at1, k', a', ks, am, 3, true, true, rfl, by decide, SqL.of (s4 _ _ hk3), SqL.of (s4 _ _ ha3), L3.same s4, fa3.same s4, la, l6, okr 3 (by decide), fun f2 l2 H5 s5 n5 h5 fl2 el2 => ?_⟩
    have s35 := s4.trans s5
    have h35 := s35 _ _ h3
    refine ⟨_, rfl, ow, _, 0, _, rfl, rfl, SqL.of h35, at0, _, rfl, ow, _, 1, _, rfl, rfl, SqL.of h35, at1, k', a', ks, am, M, Bm, ks.length, true, true, rfl, SqL.of (s35 _ _ hk3), SqL.of (s35 _ _ ha3), L3.same s35, fa3.same s35, la, l6, ok, fun f3 l3 H6 s6 n6 h6 fl3 el3 => ⟨rfl, fun fd H7 s7 n7 h7 => ?_⟩⟩
    have s47 := s5.trans (s6.trans s7)
    have s37 := s4.trans s47
    have h37 := s37 _ _ h3
    have h1f7 := s47 _ _ h4
    have fl17 := fl1.same s47
    have len1 : l1'.length = ks.length := lenOf el1 (once_len _ _)
    have len2 : l2.length = ks.length := lenOf el2 (rounds_len lq 3)
    have len3 : l3.length = ks.length := lenOf el3 (show (loavesQ (ks.map Kn.q) (am.map (·.2))).length = _ from zw_len lq)
    refine ⟨_, rfl, _, rfl, ow, _, 0, _, rfl, rfl, SqL.of h37, at0, _, rfl, ow, _, 1, _, rfl, rfl, SqL.of h37, at1, k', a', ks, am, M, Bm, ks.length, true, true, rfl, SqL.of (s37 _ _ hk3), SqL.of (s37 _ _ ha3), L3.same s37, by omega, fa3.same s37, la, l6, ok, fun zs H8 s8 hzs => ?_⟩
    have s38 := s37.trans s8
    have h38 := s38 _ _ h3
    have hfd8 := s8 _ _ h7
    refine ⟨_, rfl, ow, _, 1, _, rfl, rfl, SqL.of h38, at1, _, rfl, fd, _, 0, _, rfl, rfl, SqL.of hfd8, at0, a', f1, am, l1', true, true, rfl, SqL.of (s38 _ _ ha3), SqL.of (s8 _ _ h1f7), fa3.same s38, fl17.same s8, by omega, by omega, by rw [el1]; exact gok, fun zg H9 s9 hzg => ?_⟩
    have s79 := s8.trans s9
    have s39 := s37.trans s79
    have h39 := s39 _ _ h3
    have hfd9 := s79 _ _ h7
    have h1f9 := s79 _ _ h1f7
    have hT9 : Tbs T.Ps H9 := hT.same (s03.trans s39)
    refine ⟨_, rfl, ow, _, 0, _, rfl, rfl, SqL.of h39, at0, _, rfl, fd, _, 0, _, rfl, rfl, SqL.of hfd9, at0, k', f1, ks, l1', M1, B1, rfl, SqL.of (s39 _ _ hk3), L3.same s39, l6, h1f9, fl17.same s79, len1, by rw [el1]; exact ok1, hT9 _ (by simp [All.Ps]), fun H10 s10 => ⟨rfl, fun fe H11 s11 n11 h11 => ?_⟩⟩
    rw [el1] at hzg h11
    have s911 : Sm H9 H11 := s10.trans (.of s11)
    have hfd11 := s911.lst hfd9
    refine ⟨fd, fe, _, _, rfl, rfl, hfd11, h11, by rw [sizeLine_eq]; show 3 + 3 ≤ 16777216; decide, fun fg H12 s12 n12 h12 => ?_⟩
    have s912 : Sm H9 H12 := s911.trans (.of s12)
    have s312 : Sm H3 H12 := (Sm.of s39).trans s912
    have s012 : Sm H H12 := (Sm.of s03).trans s312
    have h3c := s312.lst h3
    have hk12 := s312.lst hk3
    have ha12 := s312.lst ha3
    have L12 := L3.sm s312
    have fa12 := fa3.sm s312
    -- what is told, so far
    have s712 : Sm H7 H12 := (Sm.of s79).trans s912
    have n3' : ∀ {a : Addr} {Hx : Hp}, Same H3 Hx → Hx a = none → H3 a = none := fun {a Hx} s n => same_none' s n
    have E1 : Elms K H3 H4 [.ref f1] [.list (l1'.map fun z => dq z.2)] [some l1'] := Elms.nil.lst (.l h4 fl1 (.of .refl n4) (by omega)) fun i l e => by simp at e
    have E2 : Elms K H3 H5 [.ref f1, .ref f2] [.list (l1'.map fun z => dq z.2), .list (l2.map fun z => dq z.2)] [some l1', some l2] := (E1.sm (.of s5)).lst (.l h5 fl2 (.of (.of s4) n5) (by omega)) (E1.old n5)
    have E3 : Elms K H3 H6 [.ref f1, .ref f2, .ref f3] [.list (l1'.map fun z => dq z.2), .list (l2.map fun z => dq z.2), .list (l3.map fun z => dq z.2)] [some l1', some l2, some l3] := (E2.sm (.of s6)).lst (.l h6 fl3 (.of (.of s35) n6) (by omega)) (E2.old n6)
    have E12 : Elms K H3 H12 ([.ref f1, .ref f2, .ref f3] ++ [.ref zs] ++ [.ref zg] ++ [.bl (askB ks am)]) (askA ks am) ([some l1', some l2, some l3] ++ [none] ++ [none] ++ [none]) := by
      have e := (((E3.sm ((Sm.of s7).trans s712)).oth (frac_elm ((FrQ.same hzs s9).sm s912))).oth (frac_elm (FrQ.sm hzg s912))).oth (.b (askB ks am))
      rw [dqs_map, dqs_map, dqs_map, el1, el2, el3] at e
      exact e
    have offg : Off fg ([.ref f1, .ref f2, .ref f3] ++ [.ref zs] ++ [.ref zg] ++ [.bl (askB ks am)]) ([some l1', some l2, some l3] ++ [none] ++ [none] ++ [none]) := fun i l e1 e2 => by
      obtain ⟨d, k⟩ := E12.get e2 e1
      have ol := (E3.sm ((Sm.of (s7.trans s79)).trans s911)).old n12
      have c : i < 3 := by
        have cs : i = 0 ∨ i = 1 ∨ i = 2 ∨ i = 3 ∨ i = 4 ∨ i = 5 ∨ 6 ≤ i := by omega
        rcases cs with c | c | c | c | c | c | c
        · omega
        · omega
        · omega
        · subst c; cases e1
        · subst c; cases e1
        · subst c; cases e1
        · rw [List.getElem?_eq_none (by show 6 ≤ i; omega)] at e1
          cases e1
      have cs : i = 0 ∨ i = 1 ∨ i = 2 := by omega
      rcases cs with c | c | c <;> subst c
      · exact ol 0 l e1 e2
      · exact ol 1 l e1 e2
      · exact ol 2 l e1 e2
    have s311 : Sm H3 H11 := (Sm.of s39).trans s911
    have nwg : Nw H3 fg := .of s311 n12
    have s03m : Sm H H3 := .of s03
    have fgk : fg ≠ k' := nwg.ne hk3
    have fga : fg ≠ a' := nwg.ne ha3
    have fgo : fg ≠ ow := nwg.ne h3
    have ka : k' ≠ a' := ne_of_none h1 n2
    have ko : k' ≠ ow := ne_of_none (s2 _ _ h1) n3
    have ao : a' ≠ ow := ne_of_none h2 n3
    have nk : Nw H k' := .of .refl n1
    have na : Nw H a' := .of (.of s1) n2
    have h12 : H12 fg = some (.lst ([.ref f1, .ref f2, .ref f3] ++ [.ref zs] ++ [.ref zg] ++ [.bl (askB ks am)])) := h12
    have XS : ([.ref f1, .ref f2, .ref f3] ++ [.ref zs] ++ [.ref zg] ++ [.bl (askB ks am)] : List V).length = 6 := rfl
    generalize ([.ref f1, .ref f2, .ref f3] ++ [.ref zs] ++ [.ref zg] ++ [.bl (askB ks am)] : List V) = X12 at E12 offg h12 XS
    generalize ([some l1', some l2, some l3] ++ [none] ++ [none] ++ [none] : List (Option (List Fz))) = O12 at E12 offg
    have lo12 := E12.lo
    -- the end: its own lists emptied
    have close : ∀ {He : Hp} {xs : List V} {ds : List PyData} {os : List (Option (List Fz))} (v : V), Sm H3 He → He fg = some (.lst xs) → Elms K H3 He xs ds os → Off fg xs os → xs.length ≤ 9 → ds = askD ks am (psF P0 ks.length) v → (psF P0 ks.length = [] → TillV (tillG ks am) (rq 1 7) v ∧ ∃ y, Sta 6000000 ks.length 0 ks.length (initA (ks.map Kn.q)) y) →
        Q (.ref fg) (upd (upd He k' (.lst [])) a' (.lst [])) := fun {He xs ds os} v sE hfe E off l9 eD tv => by
      have hkE := sE.lst hk3
      have haE := sE.lst ha3
      have ha1 : (upd He k' (.lst [])) a' = some (.lst (rz am)) := by rw [upd_ne ka.symm]; exact haE
      have s1' : Sm H (upd He k' (.lst [])) := (s03m.trans sE).putN nk hkE
      have s2' : Sm H (upd (upd He k' (.lst [])) a' (.lst [])) := s1'.putN na ha1
      have E1' := (E.put (zs := []) hkE (E.ahead hk3)).put (zs := []) ha1 (E.ahead ha3)
      refine q fg xs os v _ s2' (nwg.less s03m) (by rw [upd_ne fga, upd_ne fgk]; exact hfe) ?_ off l9 tv
      rw [← eD]
      exact E1'.less s03m
    refine ⟨_, rfl, .inl ⟨rfl, _, SqL.of h12⟩, _, rfl, ow, _, 0, _, rfl, rfl, SqL.of h3c, at0, k', ks, true, P0, rfl, SqL.of hk12, L12, l1, l6, G0, fun pn d tl H13 s13 hd ht => ⟨true, T.te, fun _ ax hax => ⟨_, rfl, ?_⟩, fun z => nomatch z⟩, fun pn f4 l4' H13 s13 n13 h13 fl4 el4 ⟨y, S⟩ => ?_⟩
    · have sa : Same H13 (upd H13 ax (ExK (.ref T.C_NoSteady) (some d) ax)) := same_new hax
      have kp : Kept K (upd H13 ax (ExK (.ref T.C_NoSteady) (some d) ax)) ax T.C_NoSteady d (.ref tl) := ⟨T.E_NoSteady, upd_same, ⟨_, sa _ _ hd⟩⟩
      let H14 := upd H13 ax (ExK (.ref T.C_NoSteady) (some d) ax)
      have sa : Same H13 H14 := sa
      have s1214 := s13.trans sa
      have h14 := s1214 _ _ h12
      refine ⟨_, rfl, .inl ⟨rfl, _, SqL.of h14⟩, _, rfl, rfl, _, rfl, iteF ⟨_, rfl, ax, T.C_NoSteady, d, _, rfl, kp, ?_⟩⟩
      refine ⟨fg, _, _, rfl, rfl, h14, by rw [XS]; exact small' (by decide), ?_⟩
      have s314 : Sm H3 H14 := s312.trans (.of s1214)
      have s315 : Sm H3 (upd H14 fg (.lst (X12 ++ [.ref tl]))) := s314.putN nwg h14
      have h15 : (upd H14 fg (.lst (X12 ++ [.ref tl]))) fg = some (.lst (X12 ++ [.ref tl])) := upd_same
      have E14 : Elms K H3 H14 (X12 ++ [.ref tl]) (askA ks am ++ [dpt (psF P0 ks.length)]) (O12 ++ [none]) := (E12.sm (.of s1214)).oth (.t (SqT.of (sa _ _ ht)) (ints_dps _) fun x hx => by
        obtain ⟨i, _, rfl⟩ := List.mem_map.mp hx
        exact ⟨_, rfl⟩)
      have off' := offg.app (x := .ref tl) lo12
      have E15 := E14.put (zs := X12 ++ [.ref tl]) h14 off'
      generalize upd H14 fg (.lst (X12 ++ [.ref tl])) = H15 at s315 h15 E15
      refine ⟨_, rfl, ow, _, 0, _, rfl, rfl, SqL.of (s315.lst h3), at0, .inl ⟨rfl, _, SqL.of (s315.lst hk3)⟩, k', _, rfl, rfl, s315.lst hk3, ?_⟩
      have h3' : (upd H15 k' (.lst [])) ow = some (.lst [.ref k', .ref a']) := by rw [upd_ne ko.symm]; exact s315.lst h3
      have ha' : (upd H15 k' (.lst [])) a' = some (.lst (rz am)) := by rw [upd_ne ka.symm]; exact s315.lst ha3
      refine ⟨_, rfl, ow, _, 1, _, rfl, rfl, SqL.of h3', at1, .inl ⟨rfl, _, SqL.of ha'⟩, a', _, rfl, rfl, ha', ?_⟩
      refine ⟨_, rfl, close .non s315 h15 E15 off' (by rw [List.length_append, XS]; show 6 + 1 ≤ 9; decide) ?_ fun z => absurd z pn⟩
      unfold askD
      rw [if_neg pn]
    · have E13 : Elms K H3 H13 (X12 ++ [.ref f4]) (askA ks am ++ [.list (l4'.map fun z => dq z.2)]) (O12 ++ [some l4']) := (E12.sm (.of s13)).lst (.l h13 fl4 (.of s312 n13) (by
        have e := congrArg List.length el4
        rw [List.length_map, sol_len, kl'] at e
        omega)) (E12.old n13)
      have h13g := s13 _ _ h12
      have f4g : f4 ≠ fg := (ne_of_none h12 n13).symm
      refine ⟨fg, _, _, rfl, rfl, h13g, by rw [XS]; exact small' (by decide), ?_⟩
      have off1 : Off fg (X12 ++ [.ref f4]) (O12 ++ [some l4']) := offg.lst lo12 f4g
      have s313 : Sm H3 H13 := s312.trans (.of s13)
      have s314 : Sm H3 (upd H13 fg (.lst (X12 ++ [.ref f4]))) := s313.putN nwg h13g
      have h14 : (upd H13 fg (.lst (X12 ++ [.ref f4]))) fg = some (.lst (X12 ++ [.ref f4])) := upd_same
      have E14 := E13.put (zs := X12 ++ [.ref f4]) h13g off1
      generalize upd H13 fg (.lst (X12 ++ [.ref f4])) = H14 at s314 h14 E14
      refine ⟨_, rfl, .inl ⟨rfl, _, SqL.of h14⟩, _, rfl, ow, _, 0, _, rfl, rfl, SqL.of (s314.lst h3), at0, _, rfl, ow, _, 1, _, rfl, rfl, SqL.of (s314.lst h3), at1, rfl, fun ml H15 s15 n15 h15 => ?_⟩
      have s315 : Sm H3 H15 := s314.trans (.of s15)
      have lo17 : IsLow 1 7 := ⟨by decide, by decide⟩
      have fm : FrQ K H15 ml (rq 1 7) := .of (by
        obtain ⟨a1, a2⟩ := low_self lo17
        rw [a1, a2]
        exact h15)
      refine ⟨k', a', ml, ks, am, rq 1 7, true, true, P0, rfl, SqL.of (s315.lst hk3), SqL.of (s315.lst ha3), L3.sm s315, fa3.sm s315, la, l1, l6, G0, aa, fm, Sz.up (sz_rq (n := 12) (by decide) (by decide) (by decide)) (by decide), fun pn' => absurd pn pn', fun _ v H16 s16 tv => ?_⟩
      have h16 := (s15.trans s16) _ _ h14
      refine ⟨fg, _, _, rfl, rfl, h16, by rw [List.length_append, XS]; exact small' (by show 6 + 1 < 100000; decide), ?_⟩
      have ev : Elm K H3 H16 v (tillD v) none := by
        rcases tv with ⟨r, _, _, _, rfl⟩ | ⟨_, rfl⟩
        · exact .i _
        · exact .n
      have E16 := (E14.sm (.of (s15.trans s16))).oth ev
      have lo14 := E14.lo
      have off2 := off1.app (x := v) lo14
      have s316 : Sm H3 H16 := s315.trans (.of s16)
      have s317 : Sm H3 (upd H16 fg (.lst (X12 ++ [.ref f4] ++ [v]))) := s316.putN nwg h16
      have h17 : (upd H16 fg (.lst (X12 ++ [.ref f4] ++ [v]))) fg = some (.lst (X12 ++ [.ref f4] ++ [v])) := upd_same
      have E17 := E16.put (zs := X12 ++ [.ref f4] ++ [v]) h16 off2
      generalize upd H16 fg (.lst (X12 ++ [.ref f4] ++ [v])) = H17 at s317 h17 E17
      refine ⟨_, rfl, .inl ⟨rfl, _, SqL.of h17⟩, _, rfl, rfl, _, rfl, iteT ?_⟩
      refine ⟨fg, _, _, rfl, rfl, h17, by rw [List.length_append, List.length_append, XS]; exact small' (by show 6 + 1 + 1 < 100000; decide), ?_⟩
      have E18 := E17.oth (K := K) .n
      have lo17' := E17.lo
      have off3 := off2.app (x := .non) lo17'
      have s318 : Sm H3 (upd H17 fg (.lst (X12 ++ [.ref f4] ++ [v] ++ [.non]))) := s317.putN nwg h17
      have h18 : (upd H17 fg (.lst (X12 ++ [.ref f4] ++ [v] ++ [.non]))) fg = some (.lst (X12 ++ [.ref f4] ++ [v] ++ [.non])) := upd_same
      have E19 := E18.put (zs := X12 ++ [.ref f4] ++ [v] ++ [.non]) h17 off3
      generalize upd H17 fg (.lst (X12 ++ [.ref f4] ++ [v] ++ [.non])) = H18 at s318 h18 E19
      refine ⟨_, rfl, ow, _, 0, _, rfl, rfl, SqL.of (s318.lst h3), at0, .inl ⟨rfl, _, SqL.of (s318.lst hk3)⟩, k', _, rfl, rfl, s318.lst hk3, ?_⟩
      have h3' : (upd H18 k' (.lst [])) ow = some (.lst [.ref k', .ref a']) := by rw [upd_ne ko.symm]; exact s318.lst h3
      have ha' : (upd H18 k' (.lst [])) a' = some (.lst (rz am)) := by rw [upd_ne ka.symm]; exact s318.lst ha3
      refine ⟨_, rfl, ow, _, 1, _, rfl, rfl, SqL.of h3', at1, .inl ⟨rfl, _, SqL.of ha'⟩, a', _, rfl, rfl, ha', ?_⟩
      refine ⟨_, rfl, close v s318 h18 E19 off3 (by rw [List.length_append, List.length_append, List.length_append, XS]; show 6 + 1 + 1 + 1 ≤ 9; decide) ?_ fun _ => ⟨tv, y, S⟩⟩
      unfold askD
      rw [if_pos pn, List.append_assoc, List.append_assoc, dqs_map, el4] <;> rfl

end
end KR
namespace KR
open PySem PySem.Spec PyProof.Rows L2
section
variable {P : Program} {w : World} {K : PySem.W.Frag} {mg : Str → Option Value} {base : Heap}
theorem at_last9 (xs : List V) (x : V) : atI (xs ++ [x]) (-1) = some x := by
  unfold atI ixN
  rw [List.length_append, List.length_singleton, if_neg (by omega), if_pos (by omega)]
  show (xs ++ [x])[(-1 + ((xs.length + 1 : Nat) : Int)).toNat]? = _
  rw [show (-1 + ((xs.length + 1 : Nat) : Int)).toNat = xs.length by omega, List.getElem?_append_right (Nat.le_refl _), Nat.sub_self] <;> rfl
theorem dpa_app {K : PySem.W.Frag} {H : Hp} : ∀ {xs ys : List V} {ds es : List PyData}, DpAll K H xs ds → DpAll K H ys es → DpAll K H (xs ++ ys) (ds ++ es)
  | _, _, _, _, .nil, t => t
  | _, _, _, _, .cons h t, t' => .cons h (dpa_app t t')
theorem ShoAll.app {k a b : Nat} : ∀ {xs ys : List PyData}, ShoAll k a xs → ShoAll k b ys → ShoAll k (a + b) (xs ++ ys)
  | [], ys, _, t => t.up (Nat.le_refl _) (by omega)
  | x :: xs, ys, h, t => by
    have d1 : PyData.depth x ≤ k ∧ PyData.depthAll xs ≤ k := by
      have := h.dep
      have e : PyData.depthAll (x :: xs) = max (PyData.depth x) (PyData.depthAll xs) := rfl
      omega
    have v1 : PyData.leavesShort 310 x = true ∧ PyData.leavesShortAll 310 xs = true := by
      have := h.lv
      have e : PyData.leavesShortAll 310 (x :: xs) = (PyData.leavesShort 310 x && PyData.leavesShortAll 310 xs) := rfl
      rw [e, Bool.and_eq_true] at this
      exact this
    have s1 : PyData.showable x = true ∧ PyData.showableAll xs = true := by
      have := h.sh
      have e : PyData.showableAll (x :: xs) = (PyData.showable x && PyData.showableAll xs) := rfl
      rw [e, Bool.and_eq_true] at this
      exact this
    have n1 : PyData.hasDict x = false ∧ PyData.hasDictAll xs = false := by
      have := h.nd
      have e : PyData.hasDictAll (x :: xs) = (PyData.hasDict x || PyData.hasDictAll xs) := rfl
      rw [e, Bool.or_eq_false_iff] at this
      exact this
    have w1 : PyData.weight x + 1 + PyData.weightAll xs ≤ a := h.wt
    exact (ShoAll.cons (a := PyData.weight x) ⟨d1.1, Nat.le_refl _, v1.1, s1.1, n1.1⟩ (ShoAll.app (a := PyData.weightAll xs) ⟨d1.2, Nat.le_refl _, v1.2, s1.2, n1.2⟩ t)).up (Nat.le_refl _) (by omega)
theorem tillD_sho {g : Nat → Rat} {m : Rat} {v : V} (h : TillV g m v) : Sho 0 1001 (tillD v) := by
  rcases h with ⟨r, r40, _, _, rfl⟩ | ⟨_, rfl⟩
  · exact Sho.int 0 (Nat.lt_of_le_of_lt (show (r : Int).natAbs ≤ 40 by omega) (by decide))
  · exact Sho.non 0 1001
theorem ints_sho : ∀ {ps : List Nat}, (∀ i ∈ ps, i < 100) → ShoAll 0 (1002 * ps.length) ((ps.map fun i : Nat => (i : Int)).map PyData.int)
  | [], _ => .nil _ _
  | i :: ps, h => ((ShoAll.cons (Sho.int (i := (i : Int)) 0 (Nat.lt_of_lt_of_le (show (i : Int).natAbs < 100 by have := h i List.mem_cons_self; omega) (by decide))) (ints_sho fun j hj => h j (List.mem_cons_of_mem _ hj)))).up (Nat.le_refl _) (by rw [List.length_cons]; omega)
theorem ask_sho {K : PySem.W.Frag} {H : Hp} {ks : List Kn} {am : List Fz} {v : V} {P : Nat → Bool} (L : KnL K H ks.length ks) (la : am.length = ks.length) (l4 : ks.length ≤ 4) (aa : ∀ z ∈ am, AmS z.2) (G : Great (ks.map Kn.q) P) (tv : psF P ks.length = [] → TillV (tillG ks am) (rq 1 7) v ∧ ∃ y, Sta 6000000 ks.length 0 ks.length (initA (ks.map Kn.q)) y) : Sho 3 50000 (.list (askD ks am (psF P ks.length) v)) := by
  have O := L.ks (by omega)
  have kl : (ks.map Kn.q).length = ks.length := List.length_map _
  have lq : (am.map (·.2)).length = (ks.map Kn.q).length := by rw [List.length_map, List.length_map, la]
  have a1 := Sho.fracs (sz_rounds O (mem_q aa) lq (r := 1) (by decide))
  have a3 := Sho.fracs (sz_rounds O (mem_q aa) lq (r := 3) (by decide))
  have al := Sho.fracs (sz_loaves O (mem_q aa) lq fun k hk => by
    obtain ⟨kn, hkn, rfl⟩ := List.mem_map.mp hk
    exact (L kn hkn).pd)
  have so := Sho.frac (sz_sold O aa la L)
  have ga := Sho.frac (gap_first O (mem_q aa) lq).2
  have n1 : (roundsQ (ks.map Kn.q) 1 (am.map (·.2))).length ≤ 4 := by rw [rounds_len lq, kl]; exact l4
  have n3 : (roundsQ (ks.map Kn.q) 3 (am.map (·.2))).length ≤ 4 := by rw [rounds_len lq, kl]; exact l4
  have nl : (loavesQ (ks.map Kn.q) (am.map (·.2))).length ≤ 4 := by
    have e : (loavesQ (ks.map Kn.q) (am.map (·.2))).length = _ := zw_len lq
    rw [e, kl]
    exact l4
  have b1 : Sho 2 8020 (.list ((onceQ (ks.map Kn.q) (am.map (·.2))).map dq)) := a1.lst.up (Nat.le_refl _) (by omega)
  have b3 : Sho 2 8020 (.list ((roundsQ (ks.map Kn.q) 3 (am.map (·.2))).map dq)) := a3.lst.up (Nat.le_refl _) (by omega)
  have bl : Sho 2 8020 (.list ((loavesQ (ks.map Kn.q) (am.map (·.2))).map dq)) := al.lst.up (Nat.le_refl _) (by omega)
  have tail : ∃ w, w ≤ 12000 ∧ ShoAll 2 w (if psF P ks.length = [] then [.list ((solQ (ks.map Kn.q)).map dq), tillD v, .none] else [dpt (psF P ks.length)]) := by
    by_cases e : psF P ks.length = []
    · rw [if_pos e]
      obtain ⟨tv, y, S⟩ := tv e
      have S : Sta 6000000 (ks.map Kn.q).length 0 (ks.map Kn.q).length (initA (ks.map Kn.q)) y := by rw [kl]; exact S
      have s := Sho.fracs (sz_sol O (by rw [kl]; exact l4) S)
      have ns : (solQ (ks.map Kn.q)).length ≤ 4 := by rw [sol_len, kl]; exact l4
      have s' : Sho 2 8020 (.list ((solQ (ks.map Kn.q)).map dq)) := s.lst.up (Nat.le_refl _) (by omega)
      exact ⟨8020 + 1 + (1001 + 1 + (0 + 1 + 0)), by decide, ShoAll.cons s' (.cons ((tillD_sho tv).up (by decide) (Nat.le_refl _)) (.cons (Sho.non 2 0) (.nil 2 0)))⟩
    · rw [if_neg e]
      have pl : (psF P ks.length).length ≤ 4 := by
        have := List.length_filter_le P (List.range ks.length)
        rw [List.length_range] at this
        exact Nat.le_trans this l4
      have p := ints_sho (ps := psF P ks.length) fun i hi => by
        have := List.mem_range.mp (List.mem_filter.mp hi).1
        omega
      exact ⟨1002 * (psF P ks.length).length + 1 + 0, by omega, ShoAll.cons (p.tup.up (w' := 1002 * (psF P ks.length).length) (k' := 2) (by decide) (Nat.le_refl _)) (.nil 2 0)⟩
  obtain ⟨w, w1, tl⟩ := tail
  have hd : ShoAll 2 (8020 + 1 + (8020 + 1 + (8020 + 1 + (2004 + 1 + (2004 + 1 + (0 + 1 + 0)))))) (askA ks am) := ShoAll.cons b1 (.cons b3 (.cons bl (.cons (so.up (by decide) (Nat.le_refl _)) (.cons (ga.up (by decide) (Nat.le_refl _)) (.cons (Sho.bl 2 0 _) (.nil 2 0))))))
  exact ((hd.app tl).lst).up (Nat.le_refl _) (by omega)
/-- what a turn's text is -/
def IsTx (ks : List Kn) (am : List Fz) (P : Nat → Bool) (S : Str) : Prop := ∃ v, (psF P ks.length = [] → TillV (tillG ks am) (rq 1 7) v) ∧ S = strD (.list (askD ks am (psF P ks.length) v))
theorem IsTx.one {ks : List Kn} {am : List Fz} {P : Nat → Bool} {S S' : Str} (a : IsTx ks am P S) (b : IsTx ks am P S') : S = S' := by
  obtain ⟨v, hv, rfl⟩ := a
  obtain ⟨w, hw, rfl⟩ := b
  have e : askD ks am (psF P ks.length) v = askD ks am (psF P ks.length) w := by
    unfold askD
    by_cases c : psF P ks.length = []
    · rw [TillV.one (hv c) (hw c)]
    · rw [if_neg c, if_neg c]
  rw [e]
/-- lists that were told, one thing more in each -/
def TolL (K : PySem.W.Frag) (H : Hp) (kp ql : Addr) (all : List (Addr × List Fz)) : Prop := ∀ z ∈ all, z.1 ≠ kp ∧ z.1 ≠ ql ∧ z.2.length ≤ 6 ∧ FL K H z.2 ∧ ∃ t, H z.1 = some (.lst (rz z.2 ++ [.ref t])) ∧ H t = some (.tup [.str "none of these"])
theorem TolL.sm {K : PySem.W.Frag} {H H' : Hp} {kp ql : Addr} {all : List (Addr × List Fz)} (h : TolL K H kp ql all) (s : Sm H H') : TolL K H' kp ql all := fun z hz => by
  obtain ⟨a, b, c, f, t, e1, e2⟩ := h z hz
  exact ⟨a, b, c, f.sm s, t, s.lst e1, s.keep _ _ e2 nofun⟩
theorem TolL.put {K : PySem.W.Frag} {H : Hp} {kp ql q : Addr} {ys zs : List V} {all : List (Addr × List Fz)} (h : TolL K H kp ql all) (hq : H q = some (.lst ys)) (n : ∀ z ∈ all, z.1 ≠ q) : TolL K (upd H q (.lst zs)) kp ql all := fun z hz => by
  obtain ⟨a, b, c, f, t, e1, e2⟩ := h z hz
  have nt : t ≠ q := fun e => by
    rw [e, hq] at e2
    cases e2
  exact ⟨a, b, c, FL.put f hq, t, by rw [upd_ne (n z hz)]; exact e1, by rw [upd_ne nt]; exact e2⟩
theorem dq_plain (q : Rat) : PyData.plain (dq q) = true := rfl
theorem dqs_plain : ∀ l : List Fz, PyData.plainAll (l.map fun z => dq z.2) = true
  | [] => rfl
  | z :: r => by
    show (PyData.plain (dq z.2) && PyData.plainAll (r.map fun z => dq z.2)) = true
    rw [dqs_plain r] <;> rfl
theorem plain_app : ∀ (a b : List PyData), PyData.plainAll (a ++ b) = (PyData.plainAll a && PyData.plainAll b)
  | [], b => rfl
  | x :: a, b => by
    show (PyData.plain x && PyData.plainAll (a ++ b)) = ((PyData.plain x && PyData.plainAll a) && PyData.plainAll b)
    rw [plain_app a b, Bool.and_assoc]
theorem dq_not (q : Rat) : PyData.eqv (dq q) (.tuple [.str "none of these"]) = false := rfl
theorem cntN_none : ∀ l : List Fz, (l.map fun z : Fz => dq z.2).countP (fun z : PyData => PyData.eqv z (PyData.tuple [.str "none of these"])) = 0
  | [] => rfl
  | z :: r => by
    rw [List.map_cons, List.countP_cons, cntN_none r, dq_not] <;> rfl
theorem cntN_one (l : List Fz) : ((l.map fun z : Fz => dq z.2) ++ [PyData.tuple [.str "none of these"]]).countP (fun z : PyData => PyData.eqv z (PyData.tuple [.str "none of these"])) = 1 := by
  rw [List.countP_append, cntN_none]
  have e : PyData.eqv (.tuple [.str "none of these"]) (.tuple [.str "none of these"]) = true := SeqAt.eqv_refl _ (SeqAt.canLay_of_shaped (by decide +kernel))
  rw [List.countP_cons, e] <;> rfl
theorem KnL.set {K : PySem.W.Frag} {H : Hp} {n : Nat} {ks : List Kn} {i : Nat} {k : Kn} (h : KnL K H n ks) (hk : KnOk K H n k) : KnL K H n (ks.set i k) := fun x hx => by
  rcases List.mem_or_eq_of_mem_set hx with m | m
  · exact h x m
  · rw [m]
    exact hk
def sp_l_turns_right (K : PySem.W.Frag) (Ps : List Addr) : Sp := fun vs H Q _ => ∃ p : Addr, vs = [.ref p] ∧ BoxAt H p 0 ∧ Tbs Ps H ∧ ∀ H', Q (.bl true) H'
theorem ok_l_turns_right (T : All K mg) (B : Tabs T base) : FnG P w K mg base 9 T.f_l_turns_right T.fd_l_turns_right ["_law_box_here"] (sp_l_turns_right K T.Ps) := by
  refine okG T.d_l_turns_right.fn sc_l_turns_right (fun vs H Q E h => ?_) (fun cdv A outer s H vs Q E hr hg h => ?_)
  · obtain ⟨p, rfl, _⟩ := h
    rfl
  · obtain ⟨p, rfl, hB, hT, q⟩ := h
    refine ⟨_, (pss_cons (ps_set (i := 1) sc_l_turns_right.nd rfl (by first | exact Or.inl rfl | exact Or.inr rfl) (pe_op op_add pe_int (pe_call (ok_l_take T) (hr.mono (by decide)) (by rfl) T.d_l_take.mg T.d_l_take.fn.kp T.d_l_take.b .nil pass0 (pa_cons (pv 0) (pa_cons pe_int pa_nil)))))
      (pss_cons (ps_par (i := 2) (j := 3) (by rfl) sc_l_turns_right.nd rfl rfl (by decide) rfl rfl (pa_cons (pe_call (ok_l_kinds T) (hr.mono (by decide)) (by rfl) T.d_l_kinds.mg T.d_l_kinds.fn.kp T.d_l_kinds.b .nil pass0 (pa_cons (pv 0) (pa_cons (pv 1) pa_nil))) (pa_cons (pe_call (ok_l_amounts T) (hr.mono (by decide)) (by rfl) T.d_l_amounts.mg T.d_l_amounts.fn.kp T.d_l_amounts.b .nil pass0 (pa_cons (pv 0) (pa_cons (pv 1) (pa_cons pe_int pa_nil)))) pa_nil)) (by rfl))
      (pss_cons (ps_par (i := 4) (j := 5) (by rfl) sc_l_turns_right.nd rfl rfl (by decide) rfl rfl (pa_cons (pe_callTy (listI (K := K) rfl) (by rfl) T.b_list (by decide +kernel) (pa_cons (pv 2) pa_nil)) (pa_cons (pe_call (ok_l_take T) (hr.mono (by decide)) (by rfl) T.d_l_take.mg T.d_l_take.fn.kp T.d_l_take.b .nil pass0 (pa_cons (pv 0) (pa_cons (pv 1) pa_nil))) pa_nil)) (by rfl))
      (pss_cons (ps_asg (pe_ix (ixL (K := K) rfl) (pe_call (ok_l_kinds T) (hr.mono (by decide)) (by rfl) T.d_l_kinds.mg T.d_l_kinds.fn.kp T.d_l_kinds.b .nil pass0 (pa_cons (pv 0) (pa_cons (pv 1) pa_nil))) pe_int (fun _ _ => rfl)) (pg_sub (pv 4) (pv 5) set_list))
      (pss_cons (ps_par (i := 6) (j := 7) (by rfl) sc_l_turns_right.nd rfl rfl (by decide) rfl rfl (pa_cons (pe_lstI pa_nil) (pa_cons (pe_lstI pa_nil) pa_nil)) (by rfl))
      (pss_cons (ps_for PassesOwn.never rfl (pi_range1 (by rfl) T.b_range (pa_cons pe_int pa_nil)) (pg_name (i := 8) sc_l_turns_right.nd rfl (by first | exact Or.inl rfl | exact Or.inr rfl)) (pss_cons (ps_set (i := 9) sc_l_turns_right.nd rfl (by first | exact Or.inl rfl | exact Or.inr rfl) (pe_call (ok_l_asked T B) hr (by rfl) T.d_l_asked.mg T.d_l_asked.fn.kp T.d_l_asked.b .nil pass0 (pa_cons (pe_ix (ixL (K := K) rfl) (pe_lstI (pa_cons (pv 2) (pa_cons (pv 4) pa_nil))) (pe_op op_mod (pv 8) pe_int) (fun _ _ => rfl)) (pa_cons (pv 3) pa_nil))))
      (pss_cons (ps_expr (pe_bm PySem.F.plainAttrs_list PySem.F.slot_list_append PySem.F.type_list_append mt_append (pv 6) (pa_cons (pe_callTy (cr_strW (K := K) rfl hg hr.units) (by rfl) T.b_str (by decide +kernel) (pa_cons (pv 9) pa_nil)) pa_nil)))
      (pss_cons (ps_if (pt_cmpR op_ne (pe_ix (ixL (K := K) rfl) (pv 6) (pe_un un_neg pe_int) (fun _ _ => rfl)) (pe_ix (ixL (K := K) rfl) (pv 6) (pe_op op_mod (pv 8) pe_int) (fun _ _ => rfl)) (nomark _)) (pss_one (ps_ret pe_bl)) pss_nil)
      (pss_one (ps_for PassesOwn.never rfl (pi_listK (K := K) rfl (pv 9)) (pg_name (i := 10) sc_l_turns_right.nd rfl (by first | exact Or.inl rfl | exact Or.inr rfl)) (pss_one (ps_if (pt_val (pe_callB (isiK (K := K) rfl) (by rfl) T.b_isinstance (by decide +kernel) (pa_cons (pv 10) (pa_cons (pe_bltn (v := .ty "list") (by rfl) T.b_list (by decide +kernel) rfl) pa_nil)))) (pss_cons (ps_expr (pe_bm PySem.F.plainAttrs_list PySem.F.slot_list_append PySem.F.type_list_append mt_append (pv 10) (pa_cons (pe_tupI (pa_cons pe_str pa_nil)) pa_nil)))
      (pss_one (ps_expr (pe_bm PySem.F.plainAttrs_list PySem.F.slot_list_append PySem.F.type_list_append mt_append (pv 7) (pa_cons (pv 10) pa_nil))))) pss_nil))))))))
      (pss_one (ps_ret (pe_callB (allK (K := K) rfl rfl) (by rfl) T.b_all (by decide +kernel) (pa_cons (pe_lc (own := [("_law_one", 10)]) (g := gName 10) (tt := tYes) (te := (tOp rEq (tBM K "list" (rCntD K) (tVar 10) (tCons (tTupI (tCons (tC (.str "none of these")) tNil)) tNil)) (tC (.int 1)))) (by rfl) sc_l_turns_right.nd (pi_listK (K := K) rfl (pv 7)) (blkOk_by (own := [("_law_one", 10)]) (N := ["_law_box_here", "_law_many", "_law_kinds_here", "_law_amounts_here", "_law_other", "_law_at", "_law_kept", "_law_lists", "_law_turn", "_law_found", "_law_one"]) (sc := defScope s_l_turns_right) (by decide +kernel)) (fun _ _ _ _ _ => (pg_name (i := 10) sc_l_turns_right.nd rfl (by first | exact Or.inl rfl | exact Or.inr rfl))) (fun _ _ _ _ _ => pts_nil) (fun _ _ _ _ _ => (pe_cmpR op_eq (pe_bm PySem.F.plainAttrs_list PySem.F.slot_list_count PySem.F.type_list_count (mt_cntD (K := K) rfl hr.units) (pv 10) (pa_cons (pe_tupI (pa_cons pe_str pa_nil)) pa_nil)) pe_int (nomark _)))) pa_nil)))))))))), ?_⟩
    refine ⟨_, rfl, p, 4, 0, rfl, hB, by decide, by decide, by decide, fun w H1 w0 w1 B1 F1 => ?_⟩
    obtain ⟨wn, rfl⟩ : ∃ wn : Nat, w = (wn : Int) := ⟨w.toNat, by omega⟩
    refine ⟨_, _, rfl, rfl, ?_⟩
    refine ⟨_, rfl, _, rfl, p, 1 + wn, 1, rfl, B1, by decide, by omega, by omega, fun kl ks H2 hk L lk B2 F2 klp nk => ?_⟩
    refine ⟨_, rfl, _, rfl, p, 1 + wn, 301, 2, rfl, B2, by decide, by omega, by omega, by decide, by decide, fun al am H3 ha fa la qa B3 F3 alp na => ⟨_, _, rfl, ?_⟩⟩
    have hk3 := F3 _ _ klp hk
    have L3 := L.fr B2 F3
    refine ⟨_, rfl, kl, _, rfl, .inl (SqL.of hk3), fun ol H4 s4 n4 h4 => ?_⟩
    have B4 := B3.same s4
    have olp : ol ≠ p := B3.new n4
    refine ⟨_, rfl, _, rfl, p, 1 + (wn : Int), 401, rfl, B4, by decide, by omega, by omega, fun at_ H5 a0 a1 B5 F5 => ⟨_, _, rfl, ?_⟩⟩
    obtain ⟨an, rfl⟩ : ∃ an : Nat, at_ = (an : Int) := ⟨at_.toNat, by omega⟩
    refine ⟨_, rfl, _, rfl, p, 1 + wn, 402, rfl, B5, by decide, by omega, by omega, fun k2 ks2 H6 hk2 L2 lk2 B6 F6 k2p nk2 => ?_⟩
    obtain ⟨kn0, ek0⟩ : ∃ k, ks2[0]? = some k := ⟨ks2[0]'(by omega), List.getElem?_eq_getElem _⟩
    refine ⟨k2, _, 0, .ref kn0.a, rfl, rfl, SqL.of hk2, at_of (j := 0) rfl (by unfold rk; rw [List.getElem?_map, ek0] <;> rfl), ?_⟩
    have F46 : Fr p H4 H6 := F5.trans F6
    have hol6 := F46 _ _ olp h4
    refine ⟨_, rfl, _, rfl, ol, _, (an : Int), an, rfl, rfl, hol6, ixN_at' (by rw [rk_len]; omega), ?_⟩
    have eS : (rk ks).set an (.ref kn0.a) = rk (ks.set an kn0) := by
      unfold rk
      rw [List.map_set]
    rw [eS]
    have F36 : Fr p H3 H6 := (Fr.of s4).trans F46
    have L6 := L3.fr B3 F36
    have hk6 := F36 _ _ klp hk3
    have ha6 := F36 _ _ alp ha
    have fa6 := fa.fr B3 F36
    have F06 : Fr p H H6 := (F1.trans (F2.trans F3)).trans F36
    have hT6 : Tbs T.Ps H6 := hT.fr hB F06
    have klo : kl ≠ ol := ne_of_none hk3 n4
    have alo : al ≠ ol := ne_of_none ha n4
    have kn0ok : KnOk K H6 (1 + wn) kn0 := L2 kn0 (List.mem_of_getElem? ek0)
    have hk7 : (upd H6 ol (.lst (rk (ks.set an kn0)))) kl = some (.lst (rk ks)) := by rw [upd_ne klo]; exact hk6
    have ha7 : (upd H6 ol (.lst (rk (ks.set an kn0)))) al = some (.lst (rz am)) := by rw [upd_ne alo]; exact ha6
    have ho7 : (upd H6 ol (.lst (rk (ks.set an kn0)))) ol = some (.lst (rk (ks.set an kn0))) := upd_same
    have L7 : KnL K (upd H6 ol (.lst (rk (ks.set an kn0)))) (1 + wn) ks := KnL.put L6 hol6
    have Lo7 : KnL K (upd H6 ol (.lst (rk (ks.set an kn0)))) (1 + wn) (ks.set an kn0) := KnL.put (L6.set kn0ok) hol6
    have fa7 : FL K (upd H6 ol (.lst (rk (ks.set an kn0)))) am := FL.put fa6 hol6
    have hT7 : Tbs T.Ps (upd H6 ol (.lst (rk (ks.set an kn0)))) := hT6.put hol6
    generalize upd H6 ol (.lst (rk (ks.set an kn0))) = H7 at hk7 ha7 ho7 L7 Lo7 fa7 hT7
    have lo7 : (ks.set an kn0).length = ks.length := List.length_set
    have len : am.length = ks.length := by rw [la, lk]
    obtain ⟨P0, G0⟩ := great_ex (ks.map Kn.q)
    obtain ⟨P1, G1⟩ := great_ex ((ks.set an kn0).map Kn.q)
    rw [← lk] at L7
    rw [← lk, ← lo7] at Lo7
    refine ⟨rfl, fun kp H8 s8 n8 h8 => ⟨rfl, fun ql H9 s9 n9 h9 => ⟨_, _, rfl, ?_⟩⟩⟩
    have s79 := s8.trans s9
    have nkp : Nw H7 kp := .of .refl n8
    have nql : Nw H7 ql := .of (.of s8) n9
    have kq : kp ≠ ql := ne_of_none h8 n9
    -- the kinds of a turn
    let kx : Nat → Addr := fun i => if i % 2 = 0 then kl else ol
    let ksx : Nat → List Kn := fun i => if i % 2 = 0 then ks else ks.set an kn0
    let Px : Nat → Nat → Bool := fun i => if i % 2 = 0 then P0 else P1
    have par : ∀ i : Nat, H7 (kx i) = some (.lst (rk (ksx i))) ∧ KnL K H7 (ksx i).length (ksx i) ∧ (ksx i).length = ks.length ∧ Great ((ksx i).map Kn.q) (Px i) ∧ atI ([.ref kl, .ref ol] : List V) ((i : Int) % 2) = some (.ref (kx i)) := fun i => by
      by_cases c : i % 2 = 0
      · have e : (i : Int) % 2 = 0 := by omega
        simp only [kx, ksx, Px, if_pos c, e]
        exact ⟨hk7, L7, trivial, G0, rfl⟩
      · have e : (i : Int) % 2 = 1 := by omega
        simp only [kx, ksx, Px, if_neg c, e]
        exact ⟨ho7, Lo7, lo7, G1, rfl⟩
    have parE : ∀ i : Nat, ksx (i % 2) = ksx i ∧ Px (i % 2) = Px i := fun i => by
      have e : i % 2 % 2 = i % 2 := by omega
      simp only [ksx, Px, e]
      exact ⟨trivial, trivial⟩
    refine ⟨_, rfl, by decide, by decide, for_range (lo := 0) (n := 6) (fun i σ H' => ∃ (ts : List Str) (all : List (Addr × List Fz)) (v8 v9 v10 : Option V), σ = [some (.ref p), some (.int (1 + (wn : Int))), some (.ref kl), some (.ref al), some (.ref ol), some (.int (an : Int)), some (.ref kp), some (.ref ql), v8, v9, v10] ∧ Sm H7 H' ∧ H' kp = some (.lst (ts.map V.str)) ∧ ts.length = i ∧ (∀ j S, ts[j]? = some S → IsTx (ksx j) am (Px j) S) ∧ H' ql = some (.lst (all.map fun z => V.ref z.1)) ∧ TolL K H' kp ql all ∧ all.length ≤ 9 * i)
      ⟨[], [], _, _, _, rfl, .of s79, s9 _ _ h8, rfl, fun j S e => by simp at e, h9, fun z hz => absurd hz List.not_mem_nil, by decide⟩ ?_ ?_⟩
    · rintro i σ Ha hi ⟨ts, all, v8, v9, v10, rfl, sa, hkp, lts, tx, hql, told, lall⟩
      rw [Int.zero_add]
      obtain ⟨hkx, Lx, lx, Gx, ex⟩ := par i
      refine ⟨_, rfl, _, rfl, rfl, fun l1 Hb sb nb hb => ?_⟩
      have s7b : Sm H7 Hb := sa.trans (.of sb)
      have hkpb := sb _ _ hkp
      have hqlb := sb _ _ hql
      refine ⟨_, rfl, _, _, rfl, rfl, (by show (0 : Int) < 2; decide), l1, _, _, .ref (kx i), rfl, rfl, SqL.of hb, ex, ?_⟩
      refine ⟨_, rfl, kx i, al, ksx i, am, Px i, rfl, s7b.lst hkx, s7b.lst ha7, Lx.sm s7b, fa7.sm s7b, by rw [lx]; exact len, by rw [lx]; omega, by rw [lx]; omega, qa, Gx, hT7.sm s7b, fun f xs os v Hc sc nwf hf E off l9 tv => ?_⟩
      have toldc := (told.sm (.of sb)).sm sc
      have hkpc := sc.lst hkpb
      have hqlc := sc.lst hqlb
      have s7c : Sm H7 Hc := s7b.trans sc
      have Ls : KnL K Hc (ksx i).length (ksx i) := Lx.sm s7c
      have sho := ask_sho Ls (by rw [lx]; exact len) (by rw [lx]; omega) qa Gx tv
      refine ⟨_, rfl, .inl ⟨rfl, _, SqL.of hkpc⟩, _, rfl, .ref f, .list (askD (ksx i) am (psF (Px i) (ksx i).length) v), 3, 50000, rfl, .lst (SqL.of hf) E.dps, sho, by decide, Nat.le_refl _, kp, _, _, rfl, rfl, hkpc, by rw [List.length_map]; exact small' (by omega), ?_⟩
      obtain ⟨S, eS', isS⟩ : ∃ S : Str, strD (.list (askD (ksx i) am (psF (Px i) (ksx i).length) v)) = S ∧ IsTx (ksx i) am (Px i) S := ⟨_, rfl, v, fun e => (tv e).1, rfl⟩
      rw [eS']
      have fkp : f ≠ kp := nwf.ne hkpb
      have fql : f ≠ ql := nwf.ne hqlb
      have Ed := E.put (zs := ts.map V.str ++ [.str S]) hkpc (E.ahead hkpb)
      have toldd := toldc.put (zs := ts.map V.str ++ [.str S]) hkpc fun z hz => (toldc z hz).1
      have s7d : Sm H7 (upd Hc kp (.lst (ts.map V.str ++ [.str S]))) := s7c.putN nkp hkpc
      have hkpd : (upd Hc kp (.lst (ts.map V.str ++ [.str S]))) kp = some (.lst (ts.map V.str ++ [.str S])) := upd_same
      have hqld : (upd Hc kp (.lst (ts.map V.str ++ [.str S]))) ql = some (.lst (all.map fun z => V.ref z.1)) := by rw [upd_ne kq.symm]; exact hqlc
      have hfd : (upd Hc kp (.lst (ts.map V.str ++ [.str S]))) f = some (.lst xs) := by rw [upd_ne fkp]; exact hf
      generalize upd Hc kp (.lst (ts.map V.str ++ [.str S])) = Hd at Ed toldd s7d hkpd hqld hfd
      have lt1 : (ts ++ [S]).length = i + 1 := by rw [List.length_append, lts] <;> rfl
      have tx' : ∀ j S', (ts ++ [S])[j]? = some S' → IsTx (ksx j) am (Px j) S' := fun j S' e => by
        by_cases c : j < ts.length
        · rw [List.getElem?_append_left c] at e
          exact tx j S' e
        · have lt := (List.getElem?_eq_some_iff.mp e).1
          rw [lt1] at lt
          obtain rfl : j = ts.length := by omega
          rw [List.getElem?_append_right (Nat.le_refl _), Nat.sub_self] at e
          cases e
          rw [lts]
          exact isS
      have em : ts.map V.str ++ [.str S] = (ts ++ [S]).map V.str := by rw [List.map_append] <;> rfl
      obtain ⟨S2, e2⟩ : ∃ S2, (ts ++ [S])[i % 2]? = some S2 := ⟨_, List.getElem?_eq_getElem (by rw [lt1]; omega)⟩
      have eS2 : S = S2 := by
        have z := tx' _ _ e2
        rw [(parE i).1, (parE i).2] at z
        exact isS.one z
      refine ⟨_, rfl, _, rfl, kp, _, -1, .str S, rfl, rfl, SqL.of hkpd, at_last9 _ _, ?_⟩
      refine ⟨_, rfl, _, rfl, _, _, rfl, rfl, (by show (0 : Int) < 2; decide), kp, _, (i : Int) % 2, .str S2, rfl, rfl, SqL.of hkpd, at_of (j := i % 2) (by omega) (by rw [em, List.getElem?_map, e2] <;> rfl), ?_⟩
      rw [← eS2]
      refine ⟨rfl, _, rfl, ?_⟩
      rw [decide_eq_true rfl]
      refine iteF ?_
      -- its lists
      have lxo := E.lo
      refine ⟨_, rfl, f, rfl, ⟨_, SqL.of hfd⟩, for_it (walk_list (K := K) (a := f) (xs := xs)) (fun j σ H' => ∃ (new : List (Addr × List Fz)) (v10 : Option V), σ = [some (.ref p), some (.int (1 + (wn : Int))), some (.ref kl), some (.ref al), some (.ref ol), some (.int (an : Int)), some (.ref kp), some (.ref ql), some (.int (i : Int)), some (.ref f), v10] ∧ Sm H7 H' ∧ H' f = some (.lst xs) ∧ H' kp = some (.lst ((ts ++ [S]).map V.str)) ∧ H' ql = some (.lst ((all ++ new).map fun z => V.ref z.1)) ∧ TolL K H' kp ql (all ++ new) ∧ new.length ≤ j ∧ (∀ z ∈ new, ∃ k l, k < j ∧ xs[k]? = some (.ref z.1) ∧ os[k]? = some (some l)) ∧ ∀ k x d o, j ≤ k → xs[k]? = some x → (askD (ksx i) am (psF (Px i) (ksx i).length) v)[k]? = some d → os[k]? = some o → Elm K Hb H' x d o)
        ⟨[], _, rfl, s7d, hfd, by rw [← em]; exact hkpd, by rw [List.append_nil]; exact hqld, by rw [List.append_nil]; exact toldd, Nat.le_refl _, fun z hz => absurd hz List.not_mem_nil, fun k x d o _ e1 e2 e3 => Ed.at_ k x d o e1 e2 e3⟩ (fun j σ H' _ ⟨_, _, _, _, h, _⟩ => SqL.of h) ?_ ?_⟩
      · rintro j x σ He' He hj ⟨new, v10, rfl, s7e, hfe, hkpe, hqle, tolde, lnew, inx, rest⟩ ⟨rfl, hx⟩
        obtain ⟨d, ed⟩ : ∃ d, (askD (ksx i) am (psF (Px i) (ksx i).length) v)[j]? = some d := ⟨_, List.getElem?_eq_getElem (by rw [← E.lx]; exact hj)⟩
        obtain ⟨o, eo⟩ : ∃ o, os[j]? = some o := ⟨_, List.getElem?_eq_getElem (by rw [← lxo]; exact hj)⟩
        have el := rest j x d o (Nat.le_refl _) hx ed eo
        have offA : ∀ (k : Nat) (l : List Fz), os[k]? = some (some l) → ∀ a : Addr, xs[k]? = some (.ref a) → a ≠ kp ∧ a ≠ ql ∧ a ≠ f := fun k l e2 a e1 =>
          ⟨fun e => E.ahead hkpb k l e2 (by rw [e1, e]), fun e => E.ahead hqlb k l e2 (by rw [e1, e]), fun e => off k l e2 (by rw [e1, e])⟩
        have toldb := told.sm (.of sb)
        cases el with
        | l h fl na l6 =>
          rename_i a l
          obtain ⟨a1, a2, a3⟩ := offA j l eo a hx
          have far : ∀ z ∈ all ++ new, z.1 ≠ a := fun z hz e => by
            rcases List.mem_append.mp hz with m | m
            · obtain ⟨_, _, _, _, t, e1, _⟩ := toldb z m
              exact na.ne e1 e.symm
            · obtain ⟨k, l', kj, e1, e2⟩ := inx z m
              rw [e] at e1
              have := E.one k j _ _ _ e1 e2 hx eo
              omega
          refine ⟨_, rfl, _, _, _, _, _, rfl, .ty _, .base (.lst h), kit_ty (show kitB "list" "list" = some true by decide +kernel), _, rfl, iteT ?_⟩
          refine ⟨_, rfl, .inl ⟨rfl, _, SqL.of h⟩, rfl, fun t Hf sf nt ht => ⟨a, _, _, rfl, rfl, sf _ _ h, by rw [rz_len]; exact small' (by omega), ?_⟩⟩
          have hf' := sf _ _ hfe
          have hkpf := sf _ _ hkpe
          have hqlf := sf _ _ hqle
          have haf := sf _ _ h
          have s7f := s7e.trans (.of sf)
          have toldf := tolde.sm (.of sf)
          have flf : FL K Hf l := fl.same sf
          have ta : t ≠ a := fun e => by
            rw [e, haf] at ht
            cases ht
          have tq : t ≠ ql := fun e => by
            rw [e, hqlf] at ht
            cases ht
          have s7g : Sm H7 (upd Hf a (.lst (rz l ++ [.ref t]))) := s7f.putN (na.less s7b) haf
          have toldg := toldf.put (zs := rz l ++ [.ref t]) haf far
          have flg : FL K (upd Hf a (.lst (rz l ++ [.ref t]))) l := FL.put flf haf
          have hfg : (upd Hf a (.lst (rz l ++ [.ref t]))) f = some (.lst xs) := by rw [upd_ne (fun e => a3 e.symm)]; exact hf'
          have hkpg : (upd Hf a (.lst (rz l ++ [.ref t]))) kp = _ := (upd_ne (fun e => a1 e.symm)).trans hkpf
          have hqlg : (upd Hf a (.lst (rz l ++ [.ref t]))) ql = _ := (upd_ne (fun e => a2 e.symm)).trans hqlf
          have hag : (upd Hf a (.lst (rz l ++ [.ref t]))) a = some (.lst (rz l ++ [.ref t])) := upd_same
          have htg : (upd Hf a (.lst (rz l ++ [.ref t]))) t = some (.tup [.str "none of these"]) := (upd_ne ta).trans ht
          have restg : ∀ k x d o, j + 1 ≤ k → xs[k]? = some x → (askD (ksx i) am (psF (Px i) (ksx i).length) v)[k]? = some d → os[k]? = some o → Elm K Hb (upd Hf a (.lst (rz l ++ [.ref t]))) x d o := fun k x d o hk e1 e2 e3 => by
            refine ((rest k x d o (by omega) e1 e2 e3).sm (.of sf)).put haf fun on e => ?_
            cases o with
            | none => exact on rfl
            | some l' =>
              rw [e] at e1
              have := E.one k j _ _ _ e1 e3 hx eo
              omega
          generalize upd Hf a (.lst (rz l ++ [.ref t])) = Hg at s7g toldg flg hfg hkpg hqlg hag htg restg
          refine ⟨_, rfl, .inl ⟨rfl, _, SqL.of hqlg⟩, _, rfl, ql, _, _, rfl, rfl, hqlg, by rw [List.length_map, List.length_append]; exact small' (by omega), ?_⟩
          have em2 : ((all ++ new).map fun z => V.ref z.1) ++ [.ref a] = ((all ++ (new ++ [(a, l)])).map fun z => V.ref z.1) := by simp only [List.map_append, List.append_assoc, List.map_cons, List.map_nil]
          refine ⟨new ++ [(a, l)], _, rfl, s7g.putN nql hqlg, (upd_ne fun e => fql e).trans hfg, (upd_ne fun e => kq e).trans hkpg, by rw [upd_same, em2], ?_, by rw [List.length_append]; show new.length + 1 ≤ j + 1; omega, ?_, fun k x' d' o' hk e1 e2 e3 => (restg k x' d' o' hk e1 e2 e3).put hqlg fun on e => ?_⟩
          · have t3 := toldg.put (zs := ((all ++ new).map fun z => V.ref z.1) ++ [.ref a]) hqlg fun z hz => (toldg z hz).2.1
            intro z hz
            rw [← List.append_assoc] at hz
            rcases List.mem_append.mp hz with m | m
            · exact t3 z m
            · obtain rfl := List.mem_singleton.mp m
              exact ⟨a1, a2, l6, FL.put flg hqlg, t, (upd_ne a2).trans hag, (upd_ne tq).trans htg⟩
          · intro z hz
            rcases List.mem_append.mp hz with m | m
            · obtain ⟨k, l', kj, e⟩ := inx z m
              exact ⟨k, l', by omega, e⟩
            · obtain rfl := List.mem_singleton.mp m
              exact ⟨j, l, by omega, hx, eo⟩
          · cases o' with
            | none => exact on rfl
            | some l' =>
              rw [e] at e1
              exact (offA k l' e3 ql e1).2.1 rfl
        | t sq dp r => exact ⟨_, rfl, _, _, _, _, _, rfl, .ty _, sqT_ty sq, kit_ty (show kitB "tuple" "list" = some false by decide +kernel), _, rfl, iteF ⟨new, _, rfl, s7e, hfe, hkpe, hqle, tolde, by omega, fun z hz => (inx z hz).elim fun k hk => hk.elim fun l hl => ⟨k, l, by omega, hl.2⟩, fun k x' d' o' hk => rest k x' d' o' (by omega)⟩⟩
        | b b => exact ⟨_, rfl, _, _, _, _, _, rfl, .ty _, .base (.bl b), kit_ty (show kitB "bool" "list" = some false by decide +kernel), _, rfl, iteF ⟨new, _, rfl, s7e, hfe, hkpe, hqle, tolde, by omega, fun z hz => (inx z hz).elim fun k hk => hk.elim fun l hl => ⟨k, l, by omega, hl.2⟩, fun k x' d' o' hk => rest k x' d' o' (by omega)⟩⟩
        | i n => exact ⟨_, rfl, _, _, _, _, _, rfl, .ty _, .base (.int n), kit_ty (show kitB "int" "list" = some false by decide +kernel), _, rfl, iteF ⟨new, _, rfl, s7e, hfe, hkpe, hqle, tolde, by omega, fun z hz => (inx z hz).elim fun k hk => hk.elim fun l hl => ⟨k, l, by omega, hl.2⟩, fun k x' d' o' hk => rest k x' d' o' (by omega)⟩⟩
        | n => exact ⟨_, rfl, _, _, _, _, _, rfl, .ty _, .base .non, kit_ty (show kitB "NoneType" "list" = some false by decide +kernel), _, rfl, iteF ⟨new, _, rfl, s7e, hfe, hkpe, hqle, tolde, by omega, fun z hz => (inx z hz).elim fun k hk => hk.elim fun l hl => ⟨k, l, by omega, hl.2⟩, fun k x' d' o' hk => rest k x' d' o' (by omega)⟩⟩
      · rintro σ He ⟨new, v10, rfl, s7e, hfe, hkpe, hqle, tolde, lnew, inx, rest⟩
        refine ⟨ts ++ [S], all ++ new, _, _, _, rfl, s7e, hkpe, lt1, tx', hqle, tolde, by rw [List.length_append]; omega⟩
    · rintro σ Ha ⟨ts, all, v8, v9, v10, rfl, sa, hkp, lts, tx, hql, told, lall⟩
      refine ⟨_, rfl, ql, rfl, ⟨_, SqL.of hql⟩, fun D hD => ?_⟩
      refine lc_it (walk_list (K := K) (a := ql) (xs := all.map fun z => V.ref z.1)) (fun j H' => Same Ha H' ∧ H' D = some (.lst (List.replicate j (.bl true)))) ⟨same_new hD, upd_same⟩ (fun j H' _ z => SqL.of (z.1 _ _ hql)) ?_ ?_
      · rintro j v Hb' Hb hj ⟨sb, hDb⟩ ⟨rfl, hv⟩
        rw [List.length_map] at hj
        rw [List.getElem?_map] at hv
        obtain ⟨z, ez, rfl⟩ := Option.map_eq_some_iff.mp hv
        obtain ⟨_, _, z6, fz, t, e1, e2⟩ := told z (List.mem_of_getElem? ez)
        have e1b := sb _ _ e1
        refine ⟨rfl, yesT ?_⟩
        refine ⟨_, rfl, .inl ⟨rfl, _, SqL.of e1b⟩, rfl, fun t2 Hc sc nc hc => ?_⟩
        have sbc := sb.trans sc
        refine ⟨z.1, rz z.2 ++ [.ref t], (z.2.map fun z => dq z.2) ++ [.tuple [.str "none of these"]], .ref t2, .tuple [.str "none of these"], rfl, rfl, SqL.of (sc _ _ e1b), dpa_app (fz.same sbc).dps (.cons (.tup (SqT.of (sbc _ _ e2)) (.cons (.str _) .nil)) .nil), .tup (SqT.of hc) (.cons (.str _) .nil), by rw [plain_app, dqs_plain] <;> rfl, by decide +kernel, by decide +kernel, ?_⟩
        rw [cntN_one]
        refine ⟨rfl, ?_⟩
        have hDc := sc _ _ hDb
        refine ⟨_, hDc, by rw [List.length_replicate]; exact small' (by omega), Same.put sbc hD, ?_⟩
        rw [upd_same, List.replicate_succ'] <;> rfl
      · rintro Hb ⟨sb, hDb⟩
        obtain ⟨t1, t2⟩ := all_true (all.map fun z => V.ref z.1).length
        refine ⟨D, List.replicate (all.map fun z => V.ref z.1).length true, rfl, SqL.of (by rw [t1]; exact hDb), ?_⟩
        rw [t2]
        exact q _

end
end KR
namespace KR
open PySem PySem.Spec PyProof.Rows L2
section
variable {P : Program} {w : World} {K : PySem.W.Frag} {mg : Str → Option Value} {base : Heap}
def sp_p_law (K : PySem.W.Frag) (Ps : List Addr) : Sp := fun vs H Q _ => ∃ (a : Addr) (ns : List Int), vs = [.ref a] ∧ SqL K H a (ns.map V.int) ∧ ns.length ≤ 63 ∧ Tbs Ps H ∧ ∀ H', Q (.bl true) H'
theorem ok_p_law (T : All K mg) (B : Tabs T base) : FnG P w K mg base 10 T.f_p_law T.fd_p_law ["_law_script"] (sp_p_law K T.Ps) := by
  refine okG T.d_p_law.fn sc_p_law (fun vs H Q E h => ?_) (fun cdv A outer s H vs Q E hr hg h => ?_)
  · obtain ⟨a, ns, rfl, _⟩ := h
    rfl
  · obtain ⟨a, ns, rfl, hS, hlen, hT, q⟩ := h
    refine ⟨_, (pss_one (ps_ret (pe_and (pe_call (ok_l_great_right T B) hr (by rfl) T.d_l_great_right.mg T.d_l_great_right.fn.kp T.d_l_great_right.b .nil pass0 (pa_cons (pe_call (ok_l_box T) (hr.mono (by decide)) (by rfl) T.d_l_box.mg T.d_l_box.fn.kp T.d_l_box.b .nil pass0 (pa_cons (pv 0) (pa_cons pe_int pa_nil))) pa_nil)) (pe_one (pe_callG (ok_l_turns_right T B) hr hg (by rfl) T.d_l_turns_right.mg T.d_l_turns_right.fn.kp T.d_l_turns_right.b .nil pass0 (pa_cons (pe_call (ok_l_box T) (hr.mono (by decide)) (by rfl) T.d_l_box.mg T.d_l_box.fn.kp T.d_l_box.b .nil pass0 (pa_cons (pv 0) (pa_cons pe_int pa_nil))) pa_nil)))))), ?_⟩
    refine ⟨_, rfl, a, ns, 0, rfl, hS, by omega, by omega, fun p H2 s2 n2 B2 => ?_⟩
    refine ⟨p, rfl, B2, hT.same s2, fun H3 F3 => ?_⟩
    have s3 : Sm H H3 := sm_new_fs s2 n2 F3
    refine ⟨true, rfl, ?_⟩
    refine iteT ?_
    refine ⟨_, rfl, a, ns, 1, rfl, s3.seq hS, by omega, by omega, fun p2 H4 s4 n4 B4 => ?_⟩
    exact ⟨p2, rfl, B4, (hT.sm s3).same s4, fun H5 => q H5⟩

end
end KR
namespace KR
open PySem PySem.Spec PyProof.Rows L2
theorem all_mk {l : PySem.W.OpenLaw} {w : World} {K : PySem.W.Frag} {h : Heap} {mg : Str → Option Value} {fa : Addr} (X : K.In h) (G : h.Ns mainGlobals mg) (hfa : mg "law" = some (.ref fa))
    {od0 an0 : Option Addr} {sl0 : Array (Option Value)} {oc0 kV0 dc0 pm0 cd0 ct0 : Value} {f0 : Addr}
    (a0 : PySem.W.nsIn K mainGlobals "is_number" = some (some (.ref f0))) (l0 : K.lookup f0 = some ⟨oc0, od0, .func (PySem.W.fnOf "is_number" "is_number" (defArgs s_p_is_number) (defBody s_p_is_number) (defScope s_p_is_number) .none kV0 dc0 pm0 an0 cd0 ct0), sl0⟩) (c0 : PySem.W.codeIn K cd0 "is_number" = true) (k0 : PySem.W.keepIn K (.ref f0) = true)
    {od1 an1 : Option Addr} {sl1 : Array (Option Value)} {oc1 kV1 dc1 pm1 cd1 ct1 : Value} {f1 : Addr}
    (a1 : PySem.W.nsIn K mainGlobals "is_number_within" = some (some (.ref f1))) (l1 : K.lookup f1 = some ⟨oc1, od1, .func (PySem.W.fnOf "is_number_within" "is_number_within" (defArgs s_p_is_number_within) (defBody s_p_is_number_within) (defScope s_p_is_number_within) .none kV1 dc1 pm1 an1 cd1 ct1), sl1⟩) (c1 : PySem.W.codeIn K cd1 "is_number_within" = true) (k1 : PySem.W.keepIn K (.ref f1) = true)
    {od2 an2 : Option Addr} {sl2 : Array (Option Value)} {oc2 kV2 dc2 pm2 cd2 ct2 : Value} {f2 : Addr}
    (a2 : PySem.W.nsIn K mainGlobals "is_frac" = some (some (.ref f2))) (l2 : K.lookup f2 = some ⟨oc2, od2, .func (PySem.W.fnOf "is_frac" "is_frac" (defArgs s_p_is_frac) (defBody s_p_is_frac) (defScope s_p_is_frac) .none kV2 dc2 pm2 an2 cd2 ct2), sl2⟩) (c2 : PySem.W.codeIn K cd2 "is_frac" = true) (k2 : PySem.W.keepIn K (.ref f2) = true)
    {od3 an3 : Option Addr} {sl3 : Array (Option Value)} {oc3 kV3 dc3 pm3 cd3 ct3 : Value} {f3 : Addr}
    (a3 : PySem.W.nsIn K mainGlobals "frac_of" = some (some (.ref f3))) (l3 : K.lookup f3 = some ⟨oc3, od3, .func (PySem.W.fnOf "frac_of" "frac_of" (defArgs s_p_frac_of) (defBody s_p_frac_of) (defScope s_p_frac_of) .none kV3 dc3 pm3 an3 cd3 ct3), sl3⟩) (c3 : PySem.W.codeIn K cd3 "frac_of" = true) (k3 : PySem.W.keepIn K (.ref f3) = true)
    {od4 an4 : Option Addr} {sl4 : Array (Option Value)} {oc4 kV4 dc4 pm4 cd4 ct4 : Value} {f4 : Addr}
    (a4 : PySem.W.nsIn K mainGlobals "sum_of" = some (some (.ref f4))) (l4 : K.lookup f4 = some ⟨oc4, od4, .func (PySem.W.fnOf "sum_of" "sum_of" (defArgs s_p_sum_of) (defBody s_p_sum_of) (defScope s_p_sum_of) .none kV4 dc4 pm4 an4 cd4 ct4), sl4⟩) (c4 : PySem.W.codeIn K cd4 "sum_of" = true) (k4 : PySem.W.keepIn K (.ref f4) = true)
    {od5 an5 : Option Addr} {sl5 : Array (Option Value)} {oc5 kV5 dc5 pm5 cd5 ct5 : Value} {f5 : Addr}
    (a5 : PySem.W.nsIn K mainGlobals "sum_of_all" = some (some (.ref f5))) (l5 : K.lookup f5 = some ⟨oc5, od5, .func (PySem.W.fnOf "sum_of_all" "sum_of_all" (defArgs s_p_sum_of_all) (defBody s_p_sum_of_all) (defScope s_p_sum_of_all) .none kV5 dc5 pm5 an5 cd5 ct5), sl5⟩) (c5 : PySem.W.codeIn K cd5 "sum_of_all" = true) (k5 : PySem.W.keepIn K (.ref f5) = true)
    {od6 an6 : Option Addr} {sl6 : Array (Option Value)} {oc6 kV6 dc6 pm6 cd6 ct6 : Value} {f6 : Addr}
    (a6 : PySem.W.nsIn K mainGlobals "difference" = some (some (.ref f6))) (l6 : K.lookup f6 = some ⟨oc6, od6, .func (PySem.W.fnOf "difference" "difference" (defArgs s_p_difference) (defBody s_p_difference) (defScope s_p_difference) .none kV6 dc6 pm6 an6 cd6 ct6), sl6⟩) (c6 : PySem.W.codeIn K cd6 "difference" = true) (k6 : PySem.W.keepIn K (.ref f6) = true)
    {od7 an7 : Option Addr} {sl7 : Array (Option Value)} {oc7 kV7 dc7 pm7 cd7 ct7 : Value} {f7 : Addr}
    (a7 : PySem.W.nsIn K mainGlobals "product" = some (some (.ref f7))) (l7 : K.lookup f7 = some ⟨oc7, od7, .func (PySem.W.fnOf "product" "product" (defArgs s_p_product) (defBody s_p_product) (defScope s_p_product) .none kV7 dc7 pm7 an7 cd7 ct7), sl7⟩) (c7 : PySem.W.codeIn K cd7 "product" = true) (k7 : PySem.W.keepIn K (.ref f7) = true)
    {od8 an8 : Option Addr} {sl8 : Array (Option Value)} {oc8 kV8 dc8 pm8 cd8 ct8 : Value} {f8 : Addr}
    (a8 : PySem.W.nsIn K mainGlobals "quotient" = some (some (.ref f8))) (l8 : K.lookup f8 = some ⟨oc8, od8, .func (PySem.W.fnOf "quotient" "quotient" (defArgs s_p_quotient) (defBody s_p_quotient) (defScope s_p_quotient) .none kV8 dc8 pm8 an8 cd8 ct8), sl8⟩) (c8 : PySem.W.codeIn K cd8 "quotient" = true) (k8 : PySem.W.keepIn K (.ref f8) = true)
    {od9 an9 : Option Addr} {sl9 : Array (Option Value)} {oc9 kV9 dc9 pm9 cd9 ct9 : Value} {f9 : Addr}
    (a9 : PySem.W.nsIn K mainGlobals "is_lesser" = some (some (.ref f9))) (l9 : K.lookup f9 = some ⟨oc9, od9, .func (PySem.W.fnOf "is_lesser" "is_lesser" (defArgs s_p_is_lesser) (defBody s_p_is_lesser) (defScope s_p_is_lesser) .none kV9 dc9 pm9 an9 cd9 ct9), sl9⟩) (c9 : PySem.W.codeIn K cd9 "is_lesser" = true) (k9 : PySem.W.keepIn K (.ref f9) = true)
    {od10 an10 : Option Addr} {sl10 : Array (Option Value)} {oc10 kV10 dc10 pm10 ct10 : Value} {f10 C10 P10 : Addr}
    (a10 : PySem.W.nsIn K mainGlobals "are_kinds" = some (some (.ref f10))) (l10 : K.lookup f10 = some ⟨oc10, od10, .func (PySem.W.fnOf "are_kinds" "are_kinds" (defArgs s_p_are_kinds) (defBody s_p_are_kinds) (defScope s_p_are_kinds) .none kV10 dc10 pm10 an10 (.ref C10) ct10), sl10⟩) (c10 : PySem.W.codeIn K (.ref C10) "are_kinds" = true) (k10 : PySem.W.keepIn K (.ref f10) = true)
    {te10 : Value} {td10 : Option Addr} {tv10 : Array Value} {ts10 : Array (Option Value)} (q10 : K.lookup C10 = some ⟨te10, td10, .fields tv10, ts10⟩) (p10 : tv10[11]? = some (.ref P10)) (n10 : K.lookup P10 = none)
    {od11 an11 : Option Addr} {sl11 : Array (Option Value)} {oc11 kV11 dc11 pm11 ct11 : Value} {f11 C11 P11 : Addr}
    (a11 : PySem.W.nsIn K mainGlobals "are_amounts" = some (some (.ref f11))) (l11 : K.lookup f11 = some ⟨oc11, od11, .func (PySem.W.fnOf "are_amounts" "are_amounts" (defArgs s_p_are_amounts) (defBody s_p_are_amounts) (defScope s_p_are_amounts) .none kV11 dc11 pm11 an11 (.ref C11) ct11), sl11⟩) (c11 : PySem.W.codeIn K (.ref C11) "are_amounts" = true) (k11 : PySem.W.keepIn K (.ref f11) = true)
    {te11 : Value} {td11 : Option Addr} {tv11 : Array Value} {ts11 : Array (Option Value)} (q11 : K.lookup C11 = some ⟨te11, td11, .fields tv11, ts11⟩) (p11 : tv11[11]? = some (.ref P11)) (n11 : K.lookup P11 = none)
    {od12 an12 : Option Addr} {sl12 : Array (Option Value)} {oc12 kV12 dc12 pm12 cd12 ct12 : Value} {f12 : Addr}
    (a12 : PySem.W.nsIn K mainGlobals "walked_once" = some (some (.ref f12))) (l12 : K.lookup f12 = some ⟨oc12, od12, .func (PySem.W.fnOf "walked_once" "walked_once" (defArgs s_p_walked_once) (defBody s_p_walked_once) (defScope s_p_walked_once) .none kV12 dc12 pm12 an12 cd12 ct12), sl12⟩) (c12 : PySem.W.codeIn K cd12 "walked_once" = true) (k12 : PySem.W.keepIn K (.ref f12) = true)
    {od13 an13 : Option Addr} {sl13 : Array (Option Value)} {oc13 kV13 dc13 pm13 cd13 ct13 : Value} {f13 : Addr}
    (a13 : PySem.W.nsIn K mainGlobals "walked_on" = some (some (.ref f13))) (l13 : K.lookup f13 = some ⟨oc13, od13, .func (PySem.W.fnOf "walked_on" "walked_on" (defArgs s_p_walked_on) (defBody s_p_walked_on) (defScope s_p_walked_on) .none kV13 dc13 pm13 an13 cd13 ct13), sl13⟩) (c13 : PySem.W.codeIn K cd13 "walked_on" = true) (k13 : PySem.W.keepIn K (.ref f13) = true)
    {od14 an14 : Option Addr} {sl14 : Array (Option Value)} {oc14 kV14 dc14 pm14 cd14 ct14 : Value} {f14 : Addr}
    (a14 : PySem.W.nsIn K mainGlobals "loaves_of" = some (some (.ref f14))) (l14 : K.lookup f14 = some ⟨oc14, od14, .func (PySem.W.fnOf "loaves_of" "loaves_of" (defArgs s_p_loaves_of) (defBody s_p_loaves_of) (defScope s_p_loaves_of) .none kV14 dc14 pm14 an14 cd14 ct14), sl14⟩) (c14 : PySem.W.codeIn K cd14 "loaves_of" = true) (k14 : PySem.W.keepIn K (.ref f14) = true)
    {od15 an15 : Option Addr} {sl15 : Array (Option Value)} {oc15 kV15 dc15 pm15 cd15 ct15 : Value} {f15 : Addr}
    (a15 : PySem.W.nsIn K mainGlobals "sold_of" = some (some (.ref f15))) (l15 : K.lookup f15 = some ⟨oc15, od15, .func (PySem.W.fnOf "sold_of" "sold_of" (defArgs s_p_sold_of) (defBody s_p_sold_of) (defScope s_p_sold_of) .none kV15 dc15 pm15 an15 cd15 ct15), sl15⟩) (c15 : PySem.W.codeIn K cd15 "sold_of" = true) (k15 : PySem.W.keepIn K (.ref f15) = true)
    {od16 an16 : Option Addr} {sl16 : Array (Option Value)} {oc16 kV16 dc16 pm16 cd16 ct16 : Value} {f16 : Addr}
    (a16 : PySem.W.nsIn K mainGlobals "gap_between" = some (some (.ref f16))) (l16 : K.lookup f16 = some ⟨oc16, od16, .func (PySem.W.fnOf "gap_between" "gap_between" (defArgs s_p_gap_between) (defBody s_p_gap_between) (defScope s_p_gap_between) .none kV16 dc16 pm16 an16 cd16 ct16), sl16⟩) (c16 : PySem.W.codeIn K cd16 "gap_between" = true) (k16 : PySem.W.keepIn K (.ref f16) = true)
    {od17 an17 : Option Addr} {sl17 : Array (Option Value)} {oc17 kV17 dc17 pm17 cd17 ct17 : Value} {f17 : Addr}
    (a17 : PySem.W.nsIn K mainGlobals "_dripped_of" = some (some (.ref f17))) (l17 : K.lookup f17 = some ⟨oc17, od17, .func (PySem.W.fnOf "_dripped_of" "_dripped_of" (defArgs s_p__dripped_of) (defBody s_p__dripped_of) (defScope s_p__dripped_of) .none kV17 dc17 pm17 an17 cd17 ct17), sl17⟩) (c17 : PySem.W.codeIn K cd17 "_dripped_of" = true) (k17 : PySem.W.keepIn K (.ref f17) = true)
    {od18 an18 : Option Addr} {sl18 : Array (Option Value)} {oc18 kV18 dc18 pm18 cd18 ct18 : Value} {f18 : Addr}
    (a18 : PySem.W.nsIn K mainGlobals "_is_kind" = some (some (.ref f18))) (l18 : K.lookup f18 = some ⟨oc18, od18, .func (PySem.W.fnOf "_is_kind" "_is_kind" (defArgs s_p__is_kind) (defBody s_p__is_kind) (defScope s_p__is_kind) .none kV18 dc18 pm18 an18 cd18 ct18), sl18⟩) (c18 : PySem.W.codeIn K cd18 "_is_kind" = true) (k18 : PySem.W.keepIn K (.ref f18) = true)
    {od19 an19 : Option Addr} {sl19 : Array (Option Value)} {oc19 kV19 dc19 pm19 ct19 : Value} {f19 C19 P19 : Addr}
    (a19 : PySem.W.nsIn K mainGlobals "_are_goes" = some (some (.ref f19))) (l19 : K.lookup f19 = some ⟨oc19, od19, .func (PySem.W.fnOf "_are_goes" "_are_goes" (defArgs s_p__are_goes) (defBody s_p__are_goes) (defScope s_p__are_goes) .none kV19 dc19 pm19 an19 (.ref C19) ct19), sl19⟩) (c19 : PySem.W.codeIn K (.ref C19) "_are_goes" = true) (k19 : PySem.W.keepIn K (.ref f19) = true)
    {te19 : Value} {td19 : Option Addr} {tv19 : Array Value} {ts19 : Array (Option Value)} (q19 : K.lookup C19 = some ⟨te19, td19, .fields tv19, ts19⟩) (p19 : tv19[11]? = some (.ref P19)) (n19 : K.lookup P19 = none)
    {od20 an20 : Option Addr} {sl20 : Array (Option Value)} {oc20 kV20 dc20 pm20 cd20 ct20 : Value} {f20 : Addr}
    (a20 : PySem.W.nsIn K mainGlobals "_is_part" = some (some (.ref f20))) (l20 : K.lookup f20 = some ⟨oc20, od20, .func (PySem.W.fnOf "_is_part" "_is_part" (defArgs s_p__is_part) (defBody s_p__is_part) (defScope s_p__is_part) .none kV20 dc20 pm20 an20 cd20 ct20), sl20⟩) (c20 : PySem.W.codeIn K cd20 "_is_part" = true) (k20 : PySem.W.keepIn K (.ref f20) = true)
    {od21 an21 : Option Addr} {sl21 : Array (Option Value)} {oc21 kV21 dc21 pm21 cd21 ct21 : Value} {f21 : Addr}
    (a21 : PySem.W.nsIn K mainGlobals "steady_state" = some (some (.ref f21))) (l21 : K.lookup f21 = some ⟨oc21, od21, .func (PySem.W.fnOf "steady_state" "steady_state" (defArgs s_p_steady_state) (defBody s_p_steady_state) (defScope s_p_steady_state) .none kV21 dc21 pm21 an21 cd21 ct21), sl21⟩) (c21 : PySem.W.codeIn K cd21 "steady_state" = true) (k21 : PySem.W.keepIn K (.ref f21) = true)
    {od22 an22 : Option Addr} {sl22 : Array (Option Value)} {oc22 kV22 dc22 pm22 cd22 ct22 : Value} {f22 : Addr}
    (a22 : PySem.W.nsIn K mainGlobals "shows_steady" = some (some (.ref f22))) (l22 : K.lookup f22 = some ⟨oc22, od22, .func (PySem.W.fnOf "shows_steady" "shows_steady" (defArgs s_p_shows_steady) (defBody s_p_shows_steady) (defScope s_p_shows_steady) .none kV22 dc22 pm22 an22 cd22 ct22), sl22⟩) (c22 : PySem.W.codeIn K cd22 "shows_steady" = true) (k22 : PySem.W.keepIn K (.ref f22) = true)
    {od23 an23 : Option Addr} {sl23 : Array (Option Value)} {oc23 kV23 dc23 pm23 cd23 ct23 : Value} {f23 : Addr}
    (a23 : PySem.W.nsIn K mainGlobals "rounds_till" = some (some (.ref f23))) (l23 : K.lookup f23 = some ⟨oc23, od23, .func (PySem.W.fnOf "rounds_till" "rounds_till" (defArgs s_p_rounds_till) (defBody s_p_rounds_till) (defScope s_p_rounds_till) .none kV23 dc23 pm23 an23 cd23 ct23), sl23⟩) (c23 : PySem.W.codeIn K cd23 "rounds_till" = true) (k23 : PySem.W.keepIn K (.ref f23) = true)
    {od24 an24 : Option Addr} {sl24 : Array (Option Value)} {oc24 kV24 dc24 pm24 cd24 ct24 : Value} {f24 : Addr}
    (a24 : PySem.W.nsIn K mainGlobals "_places_without_loss" = some (some (.ref f24))) (l24 : K.lookup f24 = some ⟨oc24, od24, .func (PySem.W.fnOf "_places_without_loss" "_places_without_loss" (defArgs s_p__places_without_loss) (defBody s_p__places_without_loss) (defScope s_p__places_without_loss) .none kV24 dc24 pm24 an24 cd24 ct24), sl24⟩) (c24 : PySem.W.codeIn K cd24 "_places_without_loss" = true) (k24 : PySem.W.keepIn K (.ref f24) = true)
    {od25 an25 : Option Addr} {sl25 : Array (Option Value)} {oc25 kV25 dc25 pm25 cd25 ct25 : Value} {f25 : Addr}
    (a25 : PySem.W.nsIn K mainGlobals "_goes_in_all" = some (some (.ref f25))) (l25 : K.lookup f25 = some ⟨oc25, od25, .func (PySem.W.fnOf "_goes_in_all" "_goes_in_all" (defArgs s_p__goes_in_all) (defBody s_p__goes_in_all) (defScope s_p__goes_in_all) .none kV25 dc25 pm25 an25 cd25 ct25), sl25⟩) (c25 : PySem.W.codeIn K cd25 "_goes_in_all" = true) (k25 : PySem.W.keepIn K (.ref f25) = true)
    {od26 an26 : Option Addr} {sl26 : Array (Option Value)} {oc26 kV26 dc26 pm26 cd26 ct26 : Value} {f26 : Addr}
    (a26 : PySem.W.nsIn K mainGlobals "_row_of" = some (some (.ref f26))) (l26 : K.lookup f26 = some ⟨oc26, od26, .func (PySem.W.fnOf "_row_of" "_row_of" (defArgs s_p__row_of) (defBody s_p__row_of) (defScope s_p__row_of) .none kV26 dc26 pm26 an26 cd26 ct26), sl26⟩) (c26 : PySem.W.codeIn K cd26 "_row_of" = true) (k26 : PySem.W.keepIn K (.ref f26) = true)
    {od27 an27 : Option Addr} {sl27 : Array (Option Value)} {oc27 kV27 dc27 pm27 cd27 ct27 : Value} {f27 : Addr}
    (a27 : PySem.W.nsIn K mainGlobals "_freed_of_itself" = some (some (.ref f27))) (l27 : K.lookup f27 = some ⟨oc27, od27, .func (PySem.W.fnOf "_freed_of_itself" "_freed_of_itself" (defArgs s_p__freed_of_itself) (defBody s_p__freed_of_itself) (defScope s_p__freed_of_itself) .none kV27 dc27 pm27 an27 cd27 ct27), sl27⟩) (c27 : PySem.W.codeIn K cd27 "_freed_of_itself" = true) (k27 : PySem.W.keepIn K (.ref f27) = true)
    {od28 an28 : Option Addr} {sl28 : Array (Option Value)} {oc28 kV28 dc28 pm28 cd28 ct28 : Value} {f28 : Addr}
    (a28 : PySem.W.nsIn K mainGlobals "_put_into" = some (some (.ref f28))) (l28 : K.lookup f28 = some ⟨oc28, od28, .func (PySem.W.fnOf "_put_into" "_put_into" (defArgs s_p__put_into) (defBody s_p__put_into) (defScope s_p__put_into) .none kV28 dc28 pm28 an28 cd28 ct28), sl28⟩) (c28 : PySem.W.codeIn K cd28 "_put_into" = true) (k28 : PySem.W.keepIn K (.ref f28) = true)
    {od29 an29 : Option Addr} {sl29 : Array (Option Value)} {oc29 kV29 dc29 pm29 cd29 ct29 : Value} {f29 : Addr}
    (a29 : PySem.W.nsIn K mainGlobals "_law_cell_at" = some (some (.ref f29))) (l29 : K.lookup f29 = some ⟨oc29, od29, .func (PySem.W.fnOf "_law_cell_at" "_law_cell_at" (defArgs s_l_cell_at) (defBody s_l_cell_at) (defScope s_l_cell_at) .none kV29 dc29 pm29 an29 cd29 ct29), sl29⟩) (c29 : PySem.W.codeIn K cd29 "_law_cell_at" = true) (k29 : PySem.W.keepIn K (.ref f29) = true)
    {od30 an30 : Option Addr} {sl30 : Array (Option Value)} {oc30 kV30 dc30 pm30 cd30 ct30 : Value} {f30 : Addr}
    (a30 : PySem.W.nsIn K mainGlobals "_law_box" = some (some (.ref f30))) (l30 : K.lookup f30 = some ⟨oc30, od30, .func (PySem.W.fnOf "_law_box" "_law_box" (defArgs s_l_box) (defBody s_l_box) (defScope s_l_box) .none kV30 dc30 pm30 an30 cd30 ct30), sl30⟩) (c30 : PySem.W.codeIn K cd30 "_law_box" = true) (k30 : PySem.W.keepIn K (.ref f30) = true)
    {od31 an31 : Option Addr} {sl31 : Array (Option Value)} {oc31 kV31 dc31 pm31 cd31 ct31 : Value} {f31 : Addr}
    (a31 : PySem.W.nsIn K mainGlobals "_law_take" = some (some (.ref f31))) (l31 : K.lookup f31 = some ⟨oc31, od31, .func (PySem.W.fnOf "_law_take" "_law_take" (defArgs s_l_take) (defBody s_l_take) (defScope s_l_take) .none kV31 dc31 pm31 an31 cd31 ct31), sl31⟩) (c31 : PySem.W.codeIn K cd31 "_law_take" = true) (k31 : PySem.W.keepIn K (.ref f31) = true)
    {od32 an32 : Option Addr} {sl32 : Array (Option Value)} {oc32 kV32 dc32 pm32 cd32 ct32 : Value} {f32 : Addr}
    (a32 : PySem.W.nsIn K mainGlobals "_law_low" = some (some (.ref f32))) (l32 : K.lookup f32 = some ⟨oc32, od32, .func (PySem.W.fnOf "_law_low" "_law_low" (defArgs s_l_low) (defBody s_l_low) (defScope s_l_low) .none kV32 dc32 pm32 an32 cd32 ct32), sl32⟩) (c32 : PySem.W.codeIn K cd32 "_law_low" = true) (k32 : PySem.W.keepIn K (.ref f32) = true)
    {od33 an33 : Option Addr} {sl33 : Array (Option Value)} {oc33 kV33 dc33 pm33 cd33 ct33 : Value} {f33 : Addr}
    (a33 : PySem.W.nsIn K mainGlobals "_law_plus" = some (some (.ref f33))) (l33 : K.lookup f33 = some ⟨oc33, od33, .func (PySem.W.fnOf "_law_plus" "_law_plus" (defArgs s_l_plus) (defBody s_l_plus) (defScope s_l_plus) .none kV33 dc33 pm33 an33 cd33 ct33), sl33⟩) (c33 : PySem.W.codeIn K cd33 "_law_plus" = true) (k33 : PySem.W.keepIn K (.ref f33) = true)
    {od34 an34 : Option Addr} {sl34 : Array (Option Value)} {oc34 kV34 dc34 pm34 cd34 ct34 : Value} {f34 : Addr}
    (a34 : PySem.W.nsIn K mainGlobals "_law_by" = some (some (.ref f34))) (l34 : K.lookup f34 = some ⟨oc34, od34, .func (PySem.W.fnOf "_law_by" "_law_by" (defArgs s_l_by) (defBody s_l_by) (defScope s_l_by) .none kV34 dc34 pm34 an34 cd34 ct34), sl34⟩) (c34 : PySem.W.codeIn K cd34 "_law_by" = true) (k34 : PySem.W.keepIn K (.ref f34) = true)
    {od35 an35 : Option Addr} {sl35 : Array (Option Value)} {oc35 kV35 dc35 pm35 cd35 ct35 : Value} {f35 : Addr}
    (a35 : PySem.W.nsIn K mainGlobals "_law_all" = some (some (.ref f35))) (l35 : K.lookup f35 = some ⟨oc35, od35, .func (PySem.W.fnOf "_law_all" "_law_all" (defArgs s_l_all) (defBody s_l_all) (defScope s_l_all) .none kV35 dc35 pm35 an35 cd35 ct35), sl35⟩) (c35 : PySem.W.codeIn K cd35 "_law_all" = true) (k35 : PySem.W.keepIn K (.ref f35) = true)
    {od36 an36 : Option Addr} {sl36 : Array (Option Value)} {oc36 kV36 dc36 pm36 cd36 ct36 : Value} {f36 : Addr}
    (a36 : PySem.W.nsIn K mainGlobals "_law_goes" = some (some (.ref f36))) (l36 : K.lookup f36 = some ⟨oc36, od36, .func (PySem.W.fnOf "_law_goes" "_law_goes" (defArgs s_l_goes) (defBody s_l_goes) (defScope s_l_goes) .none kV36 dc36 pm36 an36 cd36 ct36), sl36⟩) (c36 : PySem.W.codeIn K cd36 "_law_goes" = true) (k36 : PySem.W.keepIn K (.ref f36) = true)
    {od37 an37 : Option Addr} {sl37 : Array (Option Value)} {oc37 kV37 dc37 pm37 cd37 ct37 : Value} {f37 : Addr}
    (a37 : PySem.W.nsIn K mainGlobals "_law_kinds" = some (some (.ref f37))) (l37 : K.lookup f37 = some ⟨oc37, od37, .func (PySem.W.fnOf "_law_kinds" "_law_kinds" (defArgs s_l_kinds) (defBody s_l_kinds) (defScope s_l_kinds) .none kV37 dc37 pm37 an37 cd37 ct37), sl37⟩) (c37 : PySem.W.codeIn K cd37 "_law_kinds" = true) (k37 : PySem.W.keepIn K (.ref f37) = true)
    {od38 an38 : Option Addr} {sl38 : Array (Option Value)} {oc38 kV38 dc38 pm38 cd38 ct38 : Value} {f38 : Addr}
    (a38 : PySem.W.nsIn K mainGlobals "_law_amounts" = some (some (.ref f38))) (l38 : K.lookup f38 = some ⟨oc38, od38, .func (PySem.W.fnOf "_law_amounts" "_law_amounts" (defArgs s_l_amounts) (defBody s_l_amounts) (defScope s_l_amounts) .none kV38 dc38 pm38 an38 cd38 ct38), sl38⟩) (c38 : PySem.W.codeIn K cd38 "_law_amounts" = true) (k38 : PySem.W.keepIn K (.ref f38) = true)
    {od39 an39 : Option Addr} {sl39 : Array (Option Value)} {oc39 kV39 dc39 pm39 cd39 ct39 : Value} {f39 : Addr}
    (a39 : PySem.W.nsIn K mainGlobals "_law_once" = some (some (.ref f39))) (l39 : K.lookup f39 = some ⟨oc39, od39, .func (PySem.W.fnOf "_law_once" "_law_once" (defArgs s_l_once) (defBody s_l_once) (defScope s_l_once) .none kV39 dc39 pm39 an39 cd39 ct39), sl39⟩) (c39 : PySem.W.codeIn K cd39 "_law_once" = true) (k39 : PySem.W.keepIn K (.ref f39) = true)
    {od40 an40 : Option Addr} {sl40 : Array (Option Value)} {oc40 kV40 dc40 pm40 cd40 ct40 : Value} {f40 : Addr}
    (a40 : PySem.W.nsIn K mainGlobals "_law_strays" = some (some (.ref f40))) (l40 : K.lookup f40 = some ⟨oc40, od40, .func (PySem.W.fnOf "_law_strays" "_law_strays" (defArgs s_l_strays) (defBody s_l_strays) (defScope s_l_strays) .none kV40 dc40 pm40 an40 cd40 ct40), sl40⟩) (c40 : PySem.W.codeIn K cd40 "_law_strays" = true) (k40 : PySem.W.keepIn K (.ref f40) = true)
    {od41 an41 : Option Addr} {sl41 : Array (Option Value)} {oc41 kV41 dc41 pm41 cd41 ct41 : Value} {f41 : Addr}
    (a41 : PySem.W.nsIn K mainGlobals "_law_lossless" = some (some (.ref f41))) (l41 : K.lookup f41 = some ⟨oc41, od41, .func (PySem.W.fnOf "_law_lossless" "_law_lossless" (defArgs s_l_lossless) (defBody s_l_lossless) (defScope s_l_lossless) .none kV41 dc41 pm41 an41 cd41 ct41), sl41⟩) (c41 : PySem.W.codeIn K cd41 "_law_lossless" = true) (k41 : PySem.W.keepIn K (.ref f41) = true)
    {od42 an42 : Option Addr} {sl42 : Array (Option Value)} {oc42 kV42 dc42 pm42 cd42 ct42 : Value} {f42 : Addr}
    (a42 : PySem.W.nsIn K mainGlobals "_law_great_right" = some (some (.ref f42))) (l42 : K.lookup f42 = some ⟨oc42, od42, .func (PySem.W.fnOf "_law_great_right" "_law_great_right" (defArgs s_l_great_right) (defBody s_l_great_right) (defScope s_l_great_right) .none kV42 dc42 pm42 an42 cd42 ct42), sl42⟩) (c42 : PySem.W.codeIn K cd42 "_law_great_right" = true) (k42 : PySem.W.keepIn K (.ref f42) = true)
    {od43 an43 : Option Addr} {sl43 : Array (Option Value)} {oc43 kV43 dc43 pm43 cd43 ct43 : Value} {f43 : Addr}
    (a43 : PySem.W.nsIn K mainGlobals "_law_asked" = some (some (.ref f43))) (l43 : K.lookup f43 = some ⟨oc43, od43, .func (PySem.W.fnOf "_law_asked" "_law_asked" (defArgs s_l_asked) (defBody s_l_asked) (defScope s_l_asked) .none kV43 dc43 pm43 an43 cd43 ct43), sl43⟩) (c43 : PySem.W.codeIn K cd43 "_law_asked" = true) (k43 : PySem.W.keepIn K (.ref f43) = true)
    {od44 an44 : Option Addr} {sl44 : Array (Option Value)} {oc44 kV44 dc44 pm44 cd44 ct44 : Value} {f44 : Addr}
    (a44 : PySem.W.nsIn K mainGlobals "_law_turns_right" = some (some (.ref f44))) (l44 : K.lookup f44 = some ⟨oc44, od44, .func (PySem.W.fnOf "_law_turns_right" "_law_turns_right" (defArgs s_l_turns_right) (defBody s_l_turns_right) (defScope s_l_turns_right) .none kV44 dc44 pm44 an44 cd44 ct44), sl44⟩) (c44 : PySem.W.codeIn K cd44 "_law_turns_right" = true) (k44 : PySem.W.keepIn K (.ref f44) = true)
    {od45 an45 : Option Addr} {sl45 : Array (Option Value)} {oc45 kV45 dc45 pm45 cd45 ct45 : Value} {f45 : Addr}
    (a45 : PySem.W.nsIn K mainGlobals "law" = some (some (.ref f45))) (l45 : K.lookup f45 = some ⟨oc45, od45, .func (PySem.W.fnOf "law" "law" (defArgs s_p_law) (defBody s_p_law) (defScope s_p_law) .none kV45 dc45 pm45 an45 cd45 ct45), sl45⟩) (c45 : PySem.W.codeIn K cd45 "law" = true) (k45 : PySem.W.keepIn K (.ref f45) = true)
    (z_abs : PySem.W.nsIn K mainGlobals "abs" = some none)
    (z_all : PySem.W.nsIn K mainGlobals "all" = some none)
    (z_bool : PySem.W.nsIn K mainGlobals "bool" = some none)
    (z_enumerate : PySem.W.nsIn K mainGlobals "enumerate" = some none)
    (z_int : PySem.W.nsIn K mainGlobals "int" = some none)
    (z_isinstance : PySem.W.nsIn K mainGlobals "isinstance" = some none)
    (z_len : PySem.W.nsIn K mainGlobals "len" = some none)
    (z_list : PySem.W.nsIn K mainGlobals "list" = some none)
    (z_min : PySem.W.nsIn K mainGlobals "min" = some none)
    (z_range : PySem.W.nsIn K mainGlobals "range" = some none)
    (z_str : PySem.W.nsIn K mainGlobals "str" = some none)
    (z_sum : PySem.W.nsIn K mainGlobals "sum" = some none)
    (z_tuple : PySem.W.nsIn K mainGlobals "tuple" = some none)
    (z_zip : PySem.W.nsIn K mainGlobals "zip" = some none)
    (z_gcd : PySem.W.nsIn K mainGlobals "gcd" = some (some (.builtin "math.gcd")))
    {t_MOST_ROUNDS : Tok} (z_MOST_ROUNDS : PySem.W.nsIn K mainGlobals "MOST_ROUNDS" = some (some (.int 40 t_MOST_ROUNDS)))
    {t_MOST_KINDS : Tok} (z_MOST_KINDS : PySem.W.nsIn K mainGlobals "MOST_KINDS" = some (some (.int 6 t_MOST_KINDS)))
    {t_MOST_FRESH : Tok} (z_MOST_FRESH : PySem.W.nsIn K mainGlobals "MOST_FRESH" = some (some (.int 1000000 t_MOST_FRESH)))
    {t_MOST_BOTTOM : Tok} (z_MOST_BOTTOM : PySem.W.nsIn K mainGlobals "MOST_BOTTOM" = some (some (.int 12 t_MOST_BOTTOM)))
    {C_BoilError : Addr} (y_BoilError : PySem.W.nsIn K mainGlobals "BoilError" = some (some (.ref C_BoilError)))
    {C_NoSteady : Addr} (y_NoSteady : PySem.W.nsIn K mainGlobals "NoSteady" = some (some (.ref C_NoSteady)))
    {nm_NoSteady q_NoSteady : Str} {N_NoSteady fI_NoSteady : Addr} {bs_NoSteady : List Value} {sn_NoSteady : List Str} {sub_NoSteady : List Value} {ab_NoSteady : Bool} {col_NoSteady : Option Bool} {dd_NoSteady odI_NoSteady anI_NoSteady : Option Addr} {t2_NoSteady : Tok} {m0_NoSteady m1_NoSteady m3_NoSteady m5_NoSteady : Option Value} {ocI_NoSteady kVI_NoSteady dcI_NoSteady pmI_NoSteady cdI_NoSteady ctI_NoSteady : Value} {slI_NoSteady : Array (Option Value)}
    (xL_NoSteady : K.lookup C_NoSteady = some (excClassObj nm_NoSteady q_NoSteady C_NoSteady N_NoSteady bs_NoSteady [.ref C_BoilError, .type "ValueError", .type "Exception", .type "BaseException", .type "object"] true sn_NoSteady sub_NoSteady ab_NoSteady col_NoSteady dd_NoSteady m0_NoSteady m1_NoSteady (some (.str "NoSteady" t2_NoSteady)) m3_NoSteady m5_NoSteady "ValueError.__new__"))
    (xsa_NoSteady : PySem.W.findIn K (.ref C_NoSteady) "__setattr__" = some (some (.builtin "object.__setattr__")))
    (xex_NoSteady : PySem.W.subIn K (.ref C_NoSteady) (.type "BaseException") = some true)
    (xty_NoSteady : PySem.W.typeIn K (.ref C_NoSteady) = some (.type "type"))
    (xk_NoSteady : PySem.W.keepIn K (.ref C_NoSteady) = true)
    (xi_NoSteady : PySem.W.findIn K (.ref C_NoSteady) "__init__" = some (some (.ref fI_NoSteady)))
    (xti_NoSteady : PySem.W.typeIn K (.ref fI_NoSteady) = some (.type "function"))
    (xl_NoSteady : K.lookup fI_NoSteady = some ⟨ocI_NoSteady, odI_NoSteady, .func (PySem.W.fnOf "__init__" "NoSteady.__init__" (defArgs s_init_NoSteady) (defBody s_init_NoSteady) (defScope s_init_NoSteady) .none kVI_NoSteady dcI_NoSteady pmI_NoSteady anI_NoSteady cdI_NoSteady ctI_NoSteady), slI_NoSteady⟩)
    (xc_NoSteady : PySem.W.codeIn K cdI_NoSteady "NoSteady.__init__" = true)
    (xki_NoSteady : PySem.W.keepIn K (.ref fI_NoSteady) = true)
    (ecl_NoSteady : PySem.W.isClsIn K C_NoSteady = true)
    (ega_NoSteady : PySem.W.findIn K (.ref C_NoSteady) "__getattribute__" = some (some (.builtin "BaseException.__getattribute__")))
    (egg_NoSteady : PySem.W.findIn K (.ref C_NoSteady) "__getattr__" = some none)
    (ecs_NoSteady : PySem.W.findIn K (.ref C_NoSteady) "__class__" = some (some (.builtin "object.__class__")))
    (ege_NoSteady : PySem.W.specialIn K (.builtin "object.__class__") "__get__" = some (some (.builtin "getset_descriptor.__get__")))
    (etk_NoSteady : PySem.W.takesIn K (.builtin "object.__class__") = some true)
    (eob_NoSteady : PySem.W.mroIn K C_NoSteady (.type "object") = some true)
    (edi_NoSteady : PySem.W.hasDictIn K C_NoSteady = true)
    (efw_NoSteady : PySem.W.findIn K (.ref C_NoSteady) "word" = some none)
    (ern_NoSteady : PySem.W.readsIn K C_NoSteady (.type "type") = true)
    (efc_NoSteady : PySem.W.findCls K (.ref C_NoSteady) (.type "type") "__name__" = some (.get (.builtin "getset_descriptor.__get__") (.builtin "type.__name__") (.ref C_NoSteady) (.type "type")))
    (efl_NoSteady : PySem.W.findIn K (.ref C_NoSteady) "what" = some none)
    (ic_BoilError : PySem.W.isClsIn K C_BoilError = true)
    (it_BoilError : PySem.W.typeIn K (.ref C_BoilError) = some (.type "type"))
    (ibx : PySem.W.subIn K (.ref C_BoilError) (.type "BaseException") = some true)
    (su_NoSteady_NoSteady : PySem.W.subIn K (.ref C_NoSteady) (.ref C_NoSteady) = some true)
    {a_NOUGHT : Addr} {od_NOUGHT : Option Addr} {n_NOUGHT : Nat} {sl_NOUGHT : Array (Option Value)} {t_NOUGHT_0 t_NOUGHT_1 : Tok} (z_NOUGHT : PySem.W.nsIn K mainGlobals "NOUGHT" = some (some (.ref a_NOUGHT))) (l_NOUGHT : K.lookup a_NOUGHT = some ⟨.type "tuple", od_NOUGHT, .seq #[.int 0 t_NOUGHT_0, .int 1 t_NOUGHT_1] n_NOUGHT, sl_NOUGHT⟩)
    {a_ONE : Addr} {od_ONE : Option Addr} {n_ONE : Nat} {sl_ONE : Array (Option Value)} {t_ONE_0 t_ONE_1 : Tok} (z_ONE : PySem.W.nsIn K mainGlobals "ONE" = some (some (.ref a_ONE))) (l_ONE : K.lookup a_ONE = some ⟨.type "tuple", od_ONE, .seq #[.int 1 t_ONE_0, .int 1 t_ONE_1] n_ONE, sl_ONE⟩)
    : ∃ (fd : FuncData) (cs : List (Addr × Addr)), (∀ p ∈ cs, ∃ y ∈ (["_are_goes", "are_kinds", "are_amounts"] : List Str), PySem.W.tabIn K y = some p) ∧ (∀ p ∈ cs, K.lookup p.2 = none) ∧ (∀ (s : Shared) (v : Value), BindsTo s fd ⟨[v], []⟩ [("_law_script", v)]) ∧ ∀ base : Heap, K.In base → base.Ns mainGlobals mg → (∀ p ∈ cs, GxR.TabB base mg p.1 p.2) → FnG l.prog w K mg base 10 fa fd ["_law_script"] (sp_p_law K (cs.map (·.2))) := by
  have e := hfa.symm.trans (PySem.W.mg_of X G a45)
  cases e
  have F0 := fun_mk (st := s_p_is_number) l0 c0 k0
  have F1 := fun_mk (st := s_p_is_number_within) l1 c1 k1
  have F2 := fun_mk (st := s_p_is_frac) l2 c2 k2
  have F3 := fun_mk (st := s_p_frac_of) l3 c3 k3
  have F4 := fun_mk (st := s_p_sum_of) l4 c4 k4
  have F5 := fun_mk (st := s_p_sum_of_all) l5 c5 k5
  have F6 := fun_mk (st := s_p_difference) l6 c6 k6
  have F7 := fun_mk (st := s_p_product) l7 c7 k7
  have F8 := fun_mk (st := s_p_quotient) l8 c8 k8
  have F9 := fun_mk (st := s_p_is_lesser) l9 c9 k9
  have F10 := fun_mk (st := s_p_are_kinds) l10 c10 k10
  have F11 := fun_mk (st := s_p_are_amounts) l11 c11 k11
  have F12 := fun_mk (st := s_p_walked_once) l12 c12 k12
  have F13 := fun_mk (st := s_p_walked_on) l13 c13 k13
  have F14 := fun_mk (st := s_p_loaves_of) l14 c14 k14
  have F15 := fun_mk (st := s_p_sold_of) l15 c15 k15
  have F16 := fun_mk (st := s_p_gap_between) l16 c16 k16
  have F17 := fun_mk (st := s_p__dripped_of) l17 c17 k17
  have F18 := fun_mk (st := s_p__is_kind) l18 c18 k18
  have F19 := fun_mk (st := s_p__are_goes) l19 c19 k19
  have F20 := fun_mk (st := s_p__is_part) l20 c20 k20
  have F21 := fun_mk (st := s_p_steady_state) l21 c21 k21
  have F22 := fun_mk (st := s_p_shows_steady) l22 c22 k22
  have F23 := fun_mk (st := s_p_rounds_till) l23 c23 k23
  have F24 := fun_mk (st := s_p__places_without_loss) l24 c24 k24
  have F25 := fun_mk (st := s_p__goes_in_all) l25 c25 k25
  have F26 := fun_mk (st := s_p__row_of) l26 c26 k26
  have F27 := fun_mk (st := s_p__freed_of_itself) l27 c27 k27
  have F28 := fun_mk (st := s_p__put_into) l28 c28 k28
  have F29 := fun_mk (st := s_l_cell_at) l29 c29 k29
  have F30 := fun_mk (st := s_l_box) l30 c30 k30
  have F31 := fun_mk (st := s_l_take) l31 c31 k31
  have F32 := fun_mk (st := s_l_low) l32 c32 k32
  have F33 := fun_mk (st := s_l_plus) l33 c33 k33
  have F34 := fun_mk (st := s_l_by) l34 c34 k34
  have F35 := fun_mk (st := s_l_all) l35 c35 k35
  have F36 := fun_mk (st := s_l_goes) l36 c36 k36
  have F37 := fun_mk (st := s_l_kinds) l37 c37 k37
  have F38 := fun_mk (st := s_l_amounts) l38 c38 k38
  have F39 := fun_mk (st := s_l_once) l39 c39 k39
  have F40 := fun_mk (st := s_l_strays) l40 c40 k40
  have F41 := fun_mk (st := s_l_lossless) l41 c41 k41
  have F42 := fun_mk (st := s_l_great_right) l42 c42 k42
  have F43 := fun_mk (st := s_l_asked) l43 c43 k43
  have F44 := fun_mk (st := s_l_turns_right) l44 c44 k44
  have F45 := fun_mk (st := s_p_law) l45 c45 k45
  have FI_NoSteady := fun_mk (st := s_init_NoSteady) xl_NoSteady xc_NoSteady xki_NoSteady
  let T : All K mg := ⟨_, _, ⟨F0, PySem.W.mg_of X G a0, F0.binds (ps := ["thing"]) fun _ _ _ _ _ _ us hl => match us, hl with | [_], _ => rfl⟩, _, _, ⟨F1, PySem.W.mg_of X G a1, F1.binds (ps := ["thing", "least", "most"]) fun _ _ _ _ _ _ us hl => match us, hl with | [_, _, _], _ => rfl⟩, _, _, ⟨F2, PySem.W.mg_of X G a2, F2.binds (ps := ["thing"]) fun _ _ _ _ _ _ us hl => match us, hl with | [_], _ => rfl⟩, _, _, ⟨F3, PySem.W.mg_of X G a3, F3.binds (ps := ["top", "bottom"]) fun _ _ _ _ _ _ us hl => match us, hl with | [_, _], _ => rfl⟩, _, _, ⟨F4, PySem.W.mg_of X G a4, F4.binds (ps := ["one", "other"]) fun _ _ _ _ _ _ us hl => match us, hl with | [_, _], _ => rfl⟩, _, _, ⟨F5, PySem.W.mg_of X G a5, F5.binds (ps := ["ones"]) fun _ _ _ _ _ _ us hl => match us, hl with | [_], _ => rfl⟩, _, _, ⟨F6, PySem.W.mg_of X G a6, F6.binds (ps := ["one", "other"]) fun _ _ _ _ _ _ us hl => match us, hl with | [_, _], _ => rfl⟩, _, _, ⟨F7, PySem.W.mg_of X G a7, F7.binds (ps := ["one", "other"]) fun _ _ _ _ _ _ us hl => match us, hl with | [_, _], _ => rfl⟩, _, _, ⟨F8, PySem.W.mg_of X G a8, F8.binds (ps := ["one", "other"]) fun _ _ _ _ _ _ us hl => match us, hl with | [_, _], _ => rfl⟩, _, _, ⟨F9, PySem.W.mg_of X G a9, F9.binds (ps := ["one", "other"]) fun _ _ _ _ _ _ us hl => match us, hl with | [_, _], _ => rfl⟩, _, _, ⟨F10, PySem.W.mg_of X G a10, F10.binds (ps := ["thing"]) fun _ _ _ _ _ _ us hl => match us, hl with | [_], _ => rfl⟩, _, _, ⟨F11, PySem.W.mg_of X G a11, F11.binds (ps := ["kinds", "thing"]) fun _ _ _ _ _ _ us hl => match us, hl with | [_, _], _ => rfl⟩, _, _, ⟨F12, PySem.W.mg_of X G a12, F12.binds (ps := ["kinds", "amounts"]) fun _ _ _ _ _ _ us hl => match us, hl with | [_, _], _ => rfl⟩, _, _, ⟨F13, PySem.W.mg_of X G a13, F13.binds (ps := ["kinds", "amounts", "many"]) fun _ _ _ _ _ _ us hl => match us, hl with | [_, _, _], _ => rfl⟩, _, _, ⟨F14, PySem.W.mg_of X G a14, F14.binds (ps := ["kinds", "amounts"]) fun _ _ _ _ _ _ us hl => match us, hl with | [_, _], _ => rfl⟩, _, _, ⟨F15, PySem.W.mg_of X G a15, F15.binds (ps := ["kinds", "amounts"]) fun _ _ _ _ _ _ us hl => match us, hl with | [_, _], _ => rfl⟩, _, _, ⟨F16, PySem.W.mg_of X G a16, F16.binds (ps := ["one", "other"]) fun _ _ _ _ _ _ us hl => match us, hl with | [_, _], _ => rfl⟩, _, _, ⟨F17, PySem.W.mg_of X G a17, F17.binds (ps := ["kinds", "amounts"]) fun _ _ _ _ _ _ us hl => match us, hl with | [_, _], _ => rfl⟩, _, _, ⟨F18, PySem.W.mg_of X G a18, F18.binds (ps := ["thing", "many"]) fun _ _ _ _ _ _ us hl => match us, hl with | [_, _], _ => rfl⟩, _, _, ⟨F19, PySem.W.mg_of X G a19, F19.binds (ps := ["thing", "many"]) fun _ _ _ _ _ _ us hl => match us, hl with | [_, _], _ => rfl⟩, _, _, ⟨F20, PySem.W.mg_of X G a20, F20.binds (ps := ["thing"]) fun _ _ _ _ _ _ us hl => match us, hl with | [_], _ => rfl⟩, _, _, ⟨F21, PySem.W.mg_of X G a21, F21.binds (ps := ["kinds"]) fun _ _ _ _ _ _ us hl => match us, hl with | [_], _ => rfl⟩, _, _, ⟨F22, PySem.W.mg_of X G a22, F22.binds (ps := ["kinds", "thing"]) fun _ _ _ _ _ _ us hl => match us, hl with | [_, _], _ => rfl⟩, _, _, ⟨F23, PySem.W.mg_of X G a23, F23.binds (ps := ["kinds", "amounts", "most"]) fun _ _ _ _ _ _ us hl => match us, hl with | [_, _, _], _ => rfl⟩, _, _, ⟨F24, PySem.W.mg_of X G a24, F24.binds (ps := ["kinds"]) fun _ _ _ _ _ _ us hl => match us, hl with | [_], _ => rfl⟩, _, _, ⟨F25, PySem.W.mg_of X G a25, F25.binds (ps := ["kind", "places"]) fun _ _ _ _ _ _ us hl => match us, hl with | [_, _], _ => rfl⟩, _, _, ⟨F26, PySem.W.mg_of X G a26, F26.binds (ps := ["kinds", "place"]) fun _ _ _ _ _ _ us hl => match us, hl with | [_, _], _ => rfl⟩, _, _, ⟨F27, PySem.W.mg_of X G a27, F27.binds (ps := ["row", "place"]) fun _ _ _ _ _ _ us hl => match us, hl with | [_, _], _ => rfl⟩, _, _, ⟨F28, PySem.W.mg_of X G a28, F28.binds (ps := ["row", "place", "freed"]) fun _ _ _ _ _ _ us hl => match us, hl with | [_, _, _], _ => rfl⟩, _, _, ⟨F29, PySem.W.mg_of X G a29, F29.binds (ps := ["_law_script", "_law_k"]) fun _ _ _ _ _ _ us hl => match us, hl with | [_, _], _ => rfl⟩, _, _, ⟨F30, PySem.W.mg_of X G a30, F30.binds (ps := ["_law_script", "_law_k"]) fun _ _ _ _ _ _ us hl => match us, hl with | [_, _], _ => rfl⟩, _, _, ⟨F31, PySem.W.mg_of X G a31, F31.binds (ps := ["_law_box_here", "_law_many"]) fun _ _ _ _ _ _ us hl => match us, hl with | [_, _], _ => rfl⟩, _, _, ⟨F32, PySem.W.mg_of X G a32, F32.binds (ps := ["_law_top", "_law_bottom"]) fun _ _ _ _ _ _ us hl => match us, hl with | [_, _], _ => rfl⟩, _, _, ⟨F33, PySem.W.mg_of X G a33, F33.binds (ps := ["_law_one", "_law_other"]) fun _ _ _ _ _ _ us hl => match us, hl with | [_, _], _ => rfl⟩, _, _, ⟨F34, PySem.W.mg_of X G a34, F34.binds (ps := ["_law_one", "_law_other"]) fun _ _ _ _ _ _ us hl => match us, hl with | [_, _], _ => rfl⟩, _, _, ⟨F35, PySem.W.mg_of X G a35, F35.binds (ps := ["_law_fracs"]) fun _ _ _ _ _ _ us hl => match us, hl with | [_], _ => rfl⟩, _, _, ⟨F36, PySem.W.mg_of X G a36, F36.binds (ps := ["_law_box_here", "_law_many"]) fun _ _ _ _ _ _ us hl => match us, hl with | [_, _], _ => rfl⟩, _, _, ⟨F37, PySem.W.mg_of X G a37, F37.binds (ps := ["_law_box_here", "_law_many"]) fun _ _ _ _ _ _ us hl => match us, hl with | [_, _], _ => rfl⟩, _, _, ⟨F38, PySem.W.mg_of X G a38, F38.binds (ps := ["_law_box_here", "_law_many", "_law_sorts"]) fun _ _ _ _ _ _ us hl => match us, hl with | [_, _, _], _ => rfl⟩, _, _, ⟨F39, PySem.W.mg_of X G a39, F39.binds (ps := ["_law_kinds_here", "_law_amounts_here"]) fun _ _ _ _ _ _ us hl => match us, hl with | [_, _], _ => rfl⟩, _, _, ⟨F40, PySem.W.mg_of X G a40, F40.binds (ps := ["_law_row", "_law_places"]) fun _ _ _ _ _ _ us hl => match us, hl with | [_, _], _ => rfl⟩, _, _, ⟨F41, PySem.W.mg_of X G a41, F41.binds (ps := ["_law_kinds_here"]) fun _ _ _ _ _ _ us hl => match us, hl with | [_], _ => rfl⟩, _, _, ⟨F42, PySem.W.mg_of X G a42, F42.binds (ps := ["_law_box_here"]) fun _ _ _ _ _ _ us hl => match us, hl with | [_], _ => rfl⟩, _, _, ⟨F43, PySem.W.mg_of X G a43, F43.binds (ps := ["_law_kinds_here", "_law_amounts_here"]) fun _ _ _ _ _ _ us hl => match us, hl with | [_, _], _ => rfl⟩, _, _, ⟨F44, PySem.W.mg_of X G a44, F44.binds (ps := ["_law_box_here"]) fun _ _ _ _ _ _ us hl => match us, hl with | [_], _ => rfl⟩, _, _, ⟨F45, PySem.W.mg_of X G a45, F45.binds (ps := ["_law_script"]) fun _ _ _ _ _ _ us hl => match us, hl with | [_], _ => rfl⟩, PySem.W.mg_none_of X G z_abs, PySem.W.mg_none_of X G z_all, PySem.W.mg_none_of X G z_bool, PySem.W.mg_none_of X G z_enumerate, PySem.W.mg_none_of X G z_int, PySem.W.mg_none_of X G z_isinstance, PySem.W.mg_none_of X G z_len, PySem.W.mg_none_of X G z_list, PySem.W.mg_none_of X G z_min, PySem.W.mg_none_of X G z_range, PySem.W.mg_none_of X G z_str, PySem.W.mg_none_of X G z_sum, PySem.W.mg_none_of X G z_tuple, PySem.W.mg_none_of X G z_zip, PySem.W.mg_of X G z_gcd, _, PySem.W.mg_of X G z_MOST_ROUNDS, _, PySem.W.mg_of X G z_MOST_KINDS, _, PySem.W.mg_of X G z_MOST_FRESH, _, PySem.W.mg_of X G z_MOST_BOTTOM, _, PySem.W.mg_of X G y_BoilError, _, PySem.W.mg_of X G y_NoSteady, ⟨⟨_, _, _, _, _, _, _, _, _, _, _, _, _, _, _, xL_NoSteady, rfl⟩, xsa_NoSteady, xex_NoSteady, xty_NoSteady, xk_NoSteady⟩, _, _, xi_NoSteady, xti_NoSteady, FI_NoSteady, FI_NoSteady.binds (ps := ["self", "what"]) fun _ _ _ _ _ _ us hl => match us, hl with | [_, _], _ => rfl, ⟨ecl_NoSteady, ega_NoSteady, egg_NoSteady, xex_NoSteady, ecs_NoSteady, ege_NoSteady, etk_NoSteady, eob_NoSteady, edi_NoSteady, efl_NoSteady⟩, ⟨⟨_, t2_NoSteady, xL_NoSteady, rfl, rfl⟩, ern_NoSteady, efw_NoSteady, efc_NoSteady⟩, exm_own xex_NoSteady ecl_NoSteady xty_NoSteady su_NoSteady_NoSteady, C19, P19, funC_mk (st := s_p__are_goes) l19 c19, C10, P10, funC_mk (st := s_p_are_kinds) l10 c10, C11, P11, funC_mk (st := s_p_are_amounts) l11 c11, _, PySem.W.mg_of X G z_NOUGHT, fun H => .inr ⟨_, _, _, l_NOUGHT, rfl, rfl, small (n := 2) (by decide), .cons ⟨_, rfl⟩ (.cons ⟨_, rfl⟩ (.nil))⟩, _, PySem.W.mg_of X G z_ONE, fun H => .inr ⟨_, _, _, l_ONE, rfl, rfl, small (n := 2) (by decide), .cons ⟨_, rfl⟩ (.cons ⟨_, rfl⟩ (.nil))⟩⟩
  refine ⟨T.fd_p_law, [(C19, P19), (C10, P10), (C11, P11)], ((List.forall_mem_cons (p := fun (p : Addr × Addr) => ∃ y ∈ (["_are_goes", "are_kinds", "are_amounts"] : List Str), PySem.W.tabIn K y = some p)).mpr ⟨⟨"_are_goes", by decide, tabIn_of a19 l19 rfl q19 p19⟩, ((List.forall_mem_cons (p := fun (p : Addr × Addr) => ∃ y ∈ (["_are_goes", "are_kinds", "are_amounts"] : List Str), PySem.W.tabIn K y = some p)).mpr ⟨⟨"are_kinds", by decide, tabIn_of a10 l10 rfl q10 p10⟩, ((List.forall_mem_cons (p := fun (p : Addr × Addr) => ∃ y ∈ (["_are_goes", "are_kinds", "are_amounts"] : List Str), PySem.W.tabIn K y = some p)).mpr ⟨⟨"are_amounts", by decide, tabIn_of a11 l11 rfl q11 p11⟩, fun p hp => absurd hp List.not_mem_nil⟩)⟩)⟩), ((List.forall_mem_cons (p := fun (p : Addr × Addr) => K.lookup p.2 = none)).mpr ⟨n19, ((List.forall_mem_cons (p := fun (p : Addr × Addr) => K.lookup p.2 = none)).mpr ⟨n10, ((List.forall_mem_cons (p := fun (p : Addr × Addr) => K.lookup p.2 = none)).mpr ⟨n11, fun p hp => absurd hp List.not_mem_nil⟩)⟩)⟩), fun s v => .of_eq rfl, fun base _ _ B => ?_⟩
  have B : Tabs T base := ⟨B (C19, P19) (by simp), B (C10, P10) (by simp), B (C11, P11) (by simp)⟩
  exact ok_p_law T B
end KR
open PySem PySem.W PyProof.Rows
set_option maxRecDepth 100000 in
set_option maxHeartbeats 0 in
theorem PySem.Challenge.cw_kettlerow_k59_great_rounds_and_lists_of_holds : PySem.Challenge.rw_kettlerow_k59_great_rounds_and_lists_of.Holds := by
  w_on; o_law; k_head; (case hw => w_witness2)
  k_fill
  refine KR.walk_ofT (l := PySem.Challenge.rw_kettlerow_k59_great_rounds_and_lists_of) (n := 63) (k := 10) (x := "_law_script") (sp := fun w Ps => KR.sp_p_law _ Ps) ["_are_goes", "are_kinds", "are_amounts"] rfl (by decide) rfl ⟨rfl, by decide, by decide⟩ (fun w h Y => PySem.W.kIn_of Y) (by decide +kernel) ?F (fun _ _ _ a ns hl hT hS => ⟨a, ns, rfl, hS, hl, hT, fun _ => rfl⟩)
  case F =>
    intro w mg fa h KX G hmg
    refine' KR.all_mk KX G hmg ?a0 ?l0 ?c0 ?k0 ?a1 ?l1 ?c1 ?k1 ?a2 ?l2 ?c2 ?k2 ?a3 ?l3 ?c3 ?k3 ?a4 ?l4 ?c4 ?k4 ?a5 ?l5 ?c5 ?k5 ?a6 ?l6 ?c6 ?k6 ?a7 ?l7 ?c7 ?k7 ?a8 ?l8 ?c8 ?k8 ?a9 ?l9 ?c9 ?k9 ?a10 ?l10 ?c10 ?k10 ?q10 ?p10 ?n10 ?a11 ?l11 ?c11 ?k11 ?q11 ?p11 ?n11 ?a12 ?l12 ?c12 ?k12 ?a13 ?l13 ?c13 ?k13 ?a14 ?l14 ?c14 ?k14 ?a15 ?l15 ?c15 ?k15 ?a16 ?l16 ?c16 ?k16 ?a17 ?l17 ?c17 ?k17 ?a18 ?l18 ?c18 ?k18 ?a19 ?l19 ?c19 ?k19 ?q19 ?p19 ?n19 ?a20 ?l20 ?c20 ?k20 ?a21 ?l21 ?c21 ?k21 ?a22 ?l22 ?c22 ?k22 ?a23 ?l23 ?c23 ?k23 ?a24 ?l24 ?c24 ?k24 ?a25 ?l25 ?c25 ?k25 ?a26 ?l26 ?c26 ?k26 ?a27 ?l27 ?c27 ?k27 ?a28 ?l28 ?c28 ?k28 ?a29 ?l29 ?c29 ?k29 ?a30 ?l30 ?c30 ?k30 ?a31 ?l31 ?c31 ?k31 ?a32 ?l32 ?c32 ?k32 ?a33 ?l33 ?c33 ?k33 ?a34 ?l34 ?c34 ?k34 ?a35 ?l35 ?c35 ?k35 ?a36 ?l36 ?c36 ?k36 ?a37 ?l37 ?c37 ?k37 ?a38 ?l38 ?c38 ?k38 ?a39 ?l39 ?c39 ?k39 ?a40 ?l40 ?c40 ?k40 ?a41 ?l41 ?c41 ?k41 ?a42 ?l42 ?c42 ?k42 ?a43 ?l43 ?c43 ?k43 ?a44 ?l44 ?c44 ?k44 ?a45 ?l45 ?c45 ?k45 ?z_abs ?z_all ?z_bool ?z_enumerate ?z_int ?z_isinstance ?z_len ?z_list ?z_min ?z_range ?z_str ?z_sum ?z_tuple ?z_zip ?z_gcd ?z_MOST_ROUNDS ?z_MOST_KINDS ?z_MOST_FRESH ?z_MOST_BOTTOM ?y_BoilError ?y_NoSteady ?xL_NoSteady ?xsa_NoSteady ?xex_NoSteady ?xty_NoSteady ?xk_NoSteady ?xi_NoSteady ?xti_NoSteady ?xl_NoSteady ?xc_NoSteady ?xki_NoSteady ?ecl_NoSteady ?ega_NoSteady ?egg_NoSteady ?ecs_NoSteady ?ege_NoSteady ?etk_NoSteady ?eob_NoSteady ?edi_NoSteady ?efw_NoSteady ?ern_NoSteady ?efc_NoSteady ?efl_NoSteady ?ic_BoilError ?it_BoilError ?ibx ?su_NoSteady_NoSteady ?z_NOUGHT ?l_NOUGHT ?z_ONE ?l_ONE
    (case a0 => k_is)
    (case l0 => k_is)
    (case c0 => k_is)
    (case k0 => k_is)
    (case a1 => k_is)
    (case l1 => k_is)
    (case c1 => k_is)
    (case k1 => k_is)
    (case a2 => k_is)
    (case l2 => k_is)
    (case c2 => k_is)
    (case k2 => k_is)
    (case a3 => k_is)
    (case l3 => k_is)
    (case c3 => k_is)
    (case k3 => k_is)
    (case a4 => k_is)
    (case l4 => k_is)
    (case c4 => k_is)
    (case k4 => k_is)
    (case a5 => k_is)
    (case l5 => k_is)
    (case c5 => k_is)
    (case k5 => k_is)
    (case a6 => k_is)
    (case l6 => k_is)
    (case c6 => k_is)
    (case k6 => k_is)
    (case a7 => k_is)
    (case l7 => k_is)
    (case c7 => k_is)
    (case k7 => k_is)
    (case a8 => k_is)
    (case l8 => k_is)
    (case c8 => k_is)
    (case k8 => k_is)
    (case a9 => k_is)
    (case l9 => k_is)
    (case c9 => k_is)
    (case k9 => k_is)
    (case a10 => k_is)
    (case l10 => k_is)
    (case c10 => k_is)
    (case k10 => k_is)
    (case q10 => k_is)
    (case p10 => first | rfl | (with_unfolding_all rfl))
    (case n10 => first | rfl | (with_unfolding_all rfl))
    (case a11 => k_is)
    (case l11 => k_is)
    (case c11 => k_is)
    (case k11 => k_is)
    (case q11 => k_is)
    (case p11 => first | rfl | (with_unfolding_all rfl))
    (case n11 => first | rfl | (with_unfolding_all rfl))
    (case a12 => k_is)
    (case l12 => k_is)
    (case c12 => k_is)
    (case k12 => k_is)
    (case a13 => k_is)
    (case l13 => k_is)
    (case c13 => k_is)
    (case k13 => k_is)
    (case a14 => k_is)
    (case l14 => k_is)
    (case c14 => k_is)
    (case k14 => k_is)
    (case a15 => k_is)
    (case l15 => k_is)
    (case c15 => k_is)
    (case k15 => k_is)
    (case a16 => k_is)
    (case l16 => k_is)
    (case c16 => k_is)
    (case k16 => k_is)
    (case a17 => k_is)
    (case l17 => k_is)
    (case c17 => k_is)
    (case k17 => k_is)
    (case a18 => k_is)
    (case l18 => k_is)
    (case c18 => k_is)
    (case k18 => k_is)
    (case a19 => k_is)
    (case l19 => k_is)
    (case c19 => k_is)
    (case k19 => k_is)
    (case q19 => k_is)
    (case p19 => first | rfl | (with_unfolding_all rfl))
    (case n19 => first | rfl | (with_unfolding_all rfl))
    (case a20 => k_is)
    (case l20 => k_is)
    (case c20 => k_is)
    (case k20 => k_is)
    (case a21 => k_is)
    (case l21 => k_is)
    (case c21 => k_is)
    (case k21 => k_is)
    (case a22 => k_is)
    (case l22 => k_is)
    (case c22 => k_is)
    (case k22 => k_is)
    (case a23 => k_is)
    (case l23 => k_is)
    (case c23 => k_is)
    (case k23 => k_is)
    (case a24 => k_is)
    (case l24 => k_is)
    (case c24 => k_is)
    (case k24 => k_is)
    (case a25 => k_is)
    (case l25 => k_is)
    (case c25 => k_is)
    (case k25 => k_is)
    (case a26 => k_is)
    (case l26 => k_is)
    (case c26 => k_is)
    (case k26 => k_is)
    (case a27 => k_is)
    (case l27 => k_is)
    (case c27 => k_is)
    (case k27 => k_is)
    (case a28 => k_is)
    (case l28 => k_is)
    (case c28 => k_is)
    (case k28 => k_is)
    (case a29 => k_is)
    (case l29 => k_is)
    (case c29 => k_is)
    (case k29 => k_is)
    (case a30 => k_is)
    (case l30 => k_is)
    (case c30 => k_is)
    (case k30 => k_is)
    (case a31 => k_is)
    (case l31 => k_is)
    (case c31 => k_is)
    (case k31 => k_is)
    (case a32 => k_is)
    (case l32 => k_is)
    (case c32 => k_is)
    (case k32 => k_is)
    (case a33 => k_is)
    (case l33 => k_is)
    (case c33 => k_is)
    (case k33 => k_is)
    (case a34 => k_is)
    (case l34 => k_is)
    (case c34 => k_is)
    (case k34 => k_is)
    (case a35 => k_is)
    (case l35 => k_is)
    (case c35 => k_is)
    (case k35 => k_is)
    (case a36 => k_is)
    (case l36 => k_is)
    (case c36 => k_is)
    (case k36 => k_is)
    (case a37 => k_is)
    (case l37 => k_is)
    (case c37 => k_is)
    (case k37 => k_is)
    (case a38 => k_is)
    (case l38 => k_is)
    (case c38 => k_is)
    (case k38 => k_is)
    (case a39 => k_is)
    (case l39 => k_is)
    (case c39 => k_is)
    (case k39 => k_is)
    (case a40 => k_is)
    (case l40 => k_is)
    (case c40 => k_is)
    (case k40 => k_is)
    (case a41 => k_is)
    (case l41 => k_is)
    (case c41 => k_is)
    (case k41 => k_is)
    (case a42 => k_is)
    (case l42 => k_is)
    (case c42 => k_is)
    (case k42 => k_is)
    (case a43 => k_is)
    (case l43 => k_is)
    (case c43 => k_is)
    (case k43 => k_is)
    (case a44 => k_is)
    (case l44 => k_is)
    (case c44 => k_is)
    (case k44 => k_is)
    (case a45 => k_is)
    (case l45 => k_is)
    (case c45 => k_is)
    (case k45 => k_is)
    (case z_abs => k_is)
    (case z_all => k_is)
    (case z_bool => k_is)
    (case z_enumerate => k_is)
    (case z_int => k_is)
    (case z_isinstance => k_is)
    (case z_len => k_is)
    (case z_list => k_is)
    (case z_min => k_is)
    (case z_range => k_is)
    (case z_str => k_is)
    (case z_sum => k_is)
    (case z_tuple => k_is)
    (case z_zip => k_is)
    (case z_gcd => k_is)
    (case z_MOST_ROUNDS => k_is)
    (case z_MOST_KINDS => k_is)
    (case z_MOST_FRESH => k_is)
    (case z_MOST_BOTTOM => k_is)
    (case y_BoilError => k_is)
    (case y_NoSteady => k_is)
    (case xL_NoSteady => k_is)
    (case xsa_NoSteady => k_is)
    (case xex_NoSteady => k_is)
    (case xty_NoSteady => k_is)
    (case xk_NoSteady => k_is)
    (case xi_NoSteady => k_is)
    (case xti_NoSteady => k_is)
    (case xl_NoSteady => k_is)
    (case xc_NoSteady => k_is)
    (case xki_NoSteady => k_is)
    (case ecl_NoSteady => k_is)
    (case ega_NoSteady => k_is)
    (case egg_NoSteady => k_is)
    (case ecs_NoSteady => k_is)
    (case ege_NoSteady => k_is)
    (case etk_NoSteady => k_is)
    (case eob_NoSteady => k_is)
    (case edi_NoSteady => k_is)
    (case efw_NoSteady => k_is)
    (case ern_NoSteady => k_is)
    (case efc_NoSteady => k_is)
    (case efl_NoSteady => k_is)
    (case ic_BoilError => k_is)
    (case it_BoilError => k_is)
    (case ibx => k_is)
    (case su_NoSteady_NoSteady => k_is)
    (case z_NOUGHT => k_is)
    (case l_NOUGHT => k_is)
    (case z_ONE => k_is)
    (case l_ONE => k_is)
#print axioms PySem.Challenge.cw_kettlerow_k59_great_rounds_and_lists_of_holds
