import PyProof.Rows.All
import Wide.All
import OpenK.AllK
import Wide.FinOn
import HandS.ForMost
import HandS.Gcd
import HandS.Wide
import HandS.IsInst
import HandS.Zip
import HandS.More
import HandS.Style
import HandS.Rev
import HandS.MapJoin
import HandS.StrMore
import PySem.Challenge.RW_kettlerow_k09_ready_in_so_many_hours
set_option Elab.async false
set_option linter.all false
set_option maxRecDepth 100000
set_option maxHeartbeats 4000000
/-! ### own rules and words, of no law -/
namespace KR
open PySem PySem.Spec PyProof.Rows L2

/-- * of any two ints whose product is told to fit -/
theorem op_mulX {X : Cx} : OpR X (binaryOp .Mult) (rI IntMulOk fun i j => .int (i * j)) := opI fun _ _ _ _ _ _ _ hc q => mul_int q hc
/-- // by any divisor but 0, to some three thousand figures -/
def DivOk (_ j : Int) : Prop := j ≠ 0 ∧ j.natAbs.log2 < 9000
theorem op_fdivX {X : Cx} : OpR X (binaryOp .FloorDiv) (rI DivOk fun i j => .int (i.fdiv j)) := opI fun _ _ _ _ _ _ _ hc q => floordiv_int hc.1 q (.inl (PyProof.noPylong_of_log2 hc.2))
theorem mulL {i j : Int} (h : i.natAbs < 2 ^ 64) : IntMulOk i j := CMul.ok (.inl ⟨by omega, by omega⟩)
theorem mulR {i j : Int} (h : j.natAbs < 2 ^ 64) : IntMulOk i j := CMul.ok (.inr ⟨by omega, by omega⟩)
theorem mulW {i j : Int} {a b : Nat} (ha : i.natAbs < 2 ^ a) (hb : j.natAbs < 2 ^ b) (h0 : 0 < a) (h1 : 0 < b) (h : a + b ≤ 1000000) : IntMulOk i j := (wide_mul ha hb h0 h1 h).ok
theorem divOk {i j : Int} {b : Nat} (h : j ≠ 0) (hb : j.natAbs < 2 ^ b) (h0 : 0 < b) (h9 : b ≤ 9000) : DivOk i j := ⟨h, Nat.lt_of_lt_of_le (PySem.Flt.log2_lt_of h0 hb) h9⟩
theorem add_lt {i j : Int} {a : Nat} (ha : i.natAbs < 2 ^ a) (hb : j.natAbs < 2 ^ a) : (i + j).natAbs < 2 ^ (a + 1) := by
  rw [Nat.pow_succ]
  omega
theorem sub_lt {i j : Int} {a : Nat} (ha : i.natAbs < 2 ^ a) (hb : j.natAbs < 2 ^ a) : (i - j).natAbs < 2 ^ (a + 1) := by
  rw [Nat.pow_succ]
  omega
theorem lt_up {i : Int} {a b : Nat} (ha : i.natAbs < 2 ^ a) (h : a ≤ b) : i.natAbs < 2 ^ b := Nat.lt_of_lt_of_le ha (Nat.pow_le_pow_right (by decide) h)
theorem b40 {n : Nat} (h : n < 10 ^ 40) : n < 2 ^ 200 := Nat.lt_trans h (by decide)
theorem b41 {n : Nat} (h : n ≤ 10 ^ 41) : n < 2 ^ 200 := Nat.lt_of_le_of_lt h (by decide)
theorem bit_lt {c : Prop} [Decidable c] : (if c then (1 : Int) else 0).natAbs < 2 ^ 64 := by split <;> decide
theorem bit_nn {c : Prop} [Decidable c] : (0 : Int) ≤ (if c then (1 : Int) else 0) := by split <;> decide
theorem bit_or {c : Prop} [Decidable c] : (if c then (1 : Int) else 0) = 0 ∨ (if c then (1 : Int) else 0) = 1 := by split <;> simp
theorem small {n : Nat} (h : n ≤ 100000) : n ≤ sizeLine := Nat.le_trans h (by decide)
theorem small' {n : Nat} (h : n < 100000) : n < sizeLine := Nat.lt_of_lt_of_le h (by decide)

/-! the heap but for one object that is written -/
/-- all that was tracked but p is as it was -/
def Fr (p : Addr) (H H' : Hp) : Prop := ∀ b o, b ≠ p → H b = some o → H' b = some o
theorem Fr.refl {p : Addr} {H : Hp} : Fr p H H := fun _ _ _ h => h
theorem Fr.trans {p : Addr} {H H1 H2 : Hp} (a : Fr p H H1) (b : Fr p H1 H2) : Fr p H H2 := fun c o n h => b c o n (a c o n h)
theorem Fr.of {p : Addr} {H H1 : Hp} (a : Same H H1) : Fr p H H1 := fun c o _ h => a c o h
theorem same_new {H : Hp} {p : Addr} {o : HO} (h : H p = none) : Same H (upd H p o) := fun b x e => by
  rw [upd_ne (ne_of_none e h)]
  exact e
theorem Fr.new {p q : Addr} {H H1 : Hp} {o : HO} (a : Fr p H H1) (h : H1 q = none) : Fr p H (upd H1 q o) := a.trans (.of (same_new h))
theorem Fr.put {p : Addr} {H H1 : Hp} {o : HO} (a : Fr p H H1) : Fr p H (upd H1 p o) := fun c x n h => by
  rw [upd_ne n]
  exact a c x n h
theorem Fr.put' {p q : Addr} {H H1 : Hp} {o : HO} (a : Fr p H H1) (h : H q = none) : Fr p H (upd H1 q o) := fun c x n e => by
  rw [upd_ne (ne_of_none e h)]
  exact a c x n e
/-- what is new there was new ahead of it, if the written one stands -/
theorem Fr.free {p q : Addr} {H H1 : Hp} {o : HO} (a : Fr p H H1) (hp : H1 p = some o) (h : H1 q = none) : H q = none := by
  cases e : H q with
  | none => rfl
  | some u =>
    have n : q ≠ p := fun z => by
      rw [z, hp] at h
      cases h
    rw [a q u n e] at h
    cases h

/-! a reading may be asked for more than is wanted; displays whose new heap is a letter -/
def clA (t : TA) : TA := fun σ H Q => ∃ Q0 : List V → Hp → Prop, (∀ xs H1, Q0 xs H1 → Q xs H1) ∧ t σ H Q0
theorem pa_cl {X : Cx} {es : List Expr} {t : TA} (h : PA X es t) : PA X es (clA t) := ⟨fun pos pins s σ H Q I ⟨Q0, m, q⟩ =>
  thn (h.run pos pins s σ H Q0 I q) fun us s1 ⟨xs, H1, I1, r, z⟩ => ⟨xs, H1, I1, r, m _ _ z⟩⟩
def tTupI (t : TA) : TE := fun σ H Q => t σ H fun xs H1 => Nat.ble xs.length 100000 = true ∧ ∀ p H', Same H1 H' → H1 p = none → H' p = some (.tup xs) → Q (.ref p) H'
def tLstI (t : TA) : TE := fun σ H Q => t σ H fun xs H1 => Nat.ble xs.length 100000 = true ∧ ∀ p H', Same H1 H' → H1 p = none → H' p = some (.lst xs) → Q (.ref p) H'
theorem pe_tupI {X : Cx} {es : List Expr} {k : Nat} {pos : Pos} {t : TA} (h : PA X es t) : PE X (.Tuple es k pos) (tTupI t) := ⟨fun pins s σ H Q I q =>
  (pe_tup (pa_cl h)).run pins s σ H Q I ⟨_, fun _ _ ⟨z, w⟩ => ⟨small (Nat.le_of_ble_eq_true z), fun p hp => w p _ (same_new hp) hp upd_same⟩, q⟩⟩
theorem pe_lstI {X : Cx} {es : List Expr} {pos : Pos} {t : TA} (h : PA X es t) : PE X (.List es pos) (tLstI t) := ⟨fun pins s σ H Q I q =>
  (pe_lst (pa_cl h)).run pins s σ H Q I ⟨_, fun _ _ ⟨z, w⟩ => ⟨small (Nat.le_of_ble_eq_true z), fun p hp => w p _ (same_new hp) hp upd_same⟩, q⟩⟩
/-- ways that join behind a statement: R is what they come to -/
def tJ (t : TS) : TS := fun D σ H => ∃ R : L2.St → Hp → Prop, (∀ σ' H', R σ' H' → D.nx σ' H') ∧ t { D with nx := R } σ H
theorem ps_J {X : Cx} {st : Stmt} {t : TS} (h : PS X st t) : PS X st (tJ t) := ⟨fun pins s σ H D I ⟨R, m, q⟩ => thn (h.run pins s σ H { D with nx := R } I q) fun f s1 z =>
  match f, z with
  | .next, ⟨σ', H', J, r⟩ => ⟨σ', H', J, m _ _ r⟩
  | .ret _, z => z
  | .brk, z => z
  | .cont, z => z⟩
theorem ite_bT {b : Bool} {A B : Prop} (h : b = true) (q : A) : if b = true then A else B := by
  rw [if_pos h]
  exact q
theorem ite_bF {b : Bool} {A B : Prop} (h : b = false) (q : B) : if b = true then A else B := by
  rw [if_neg (by rw [h]; exact Bool.false_ne_true)]
  exact q
theorem ite_iT {i j : Int} {A B : Prop} (h : i = j) (q : A) : if decide (V.int i = V.int j) = true then A else B := by
  rw [if_pos (decide_eq_true (congrArg V.int h))]
  exact q
theorem ite_iF {i j : Int} {A B : Prop} (h : i ≠ j) (q : B) : if decide (V.int i = V.int j) = true then A else B := by
  rw [if_neg (by rw [decide_eq_false fun z => h (V.int.inj z)]; exact Bool.false_ne_true)]
  exact q
theorem ite_nT {i j : Int} {A B : Prop} (h : i ≠ j) (q : A) : if (!decide (V.int i = V.int j)) = true then A else B := by
  rw [if_pos (by rw [decide_eq_false fun z => h (V.int.inj z)] <;> rfl)]
  exact q
theorem ite_nF {i j : Int} {A B : Prop} (h : i = j) (q : B) : if (!decide (V.int i = V.int j)) = true then A else B := by
  rw [if_neg (by rw [decide_eq_true (congrArg V.int h)]; exact Bool.false_ne_true)]
  exact q
/-- the law's box of draws: n is more than have been mixed -/
def BoxAt (H : Hp) (p : Addr) (n : Nat) : Prop := ∃ a b c : Int, H p = some (.lst [.int a, .int b, .int c]) ∧ 0 ≤ a ∧ 0 ≤ b ∧ b < 2 ^ 62 ∧ 0 ≤ c ∧ c ≤ (n : Int)
theorem BoxAt.mono {H : Hp} {p : Addr} {n m : Nat} (h : BoxAt H p n) (le : n ≤ m) : BoxAt H p m := by
  obtain ⟨a, b, c, h1, h2, h3, h4, h5, h6⟩ := h
  exact ⟨a, b, c, h1, h2, h3, h4, h5, by omega⟩
theorem BoxAt.same {H H' : Hp} {p : Addr} {n : Nat} (h : BoxAt H p n) (s : Same H H') : BoxAt H' p n := by
  obtain ⟨a, b, c, h1, h2⟩ := h
  exact ⟨a, b, c, s _ _ h1, h2⟩
theorem BoxAt.ne {H : Hp} {p q : Addr} {n : Nat} {xs : List V} (h : BoxAt H p n) (t : H q = some (.tup xs)) : q ≠ p := by
  obtain ⟨a, b, c, h1, _⟩ := h
  exact ne_of t h1 (by intro z; cases z)
theorem BoxAt.some {H : Hp} {p : Addr} {n : Nat} (h : BoxAt H p n) : ∃ o, H p = some o := by
  obtain ⟨a, b, c, h1, _⟩ := h
  exact ⟨_, h1⟩
/-- a tuple stays -/
theorem Fr.tup {p q : Addr} {H H1 : Hp} {n : Nat} {xs : List V} (a : Fr p H H1) (hb : BoxAt H p n) (t : H q = some (.tup xs)) : H1 q = some (.tup xs) := a q _ (hb.ne t) t
/-- a pair of ints -/
def PrAt (H : Hp) (q : Addr) (t b : Int) : Prop := H q = some (.tup [.int t, .int b])
theorem at0 {x : V} {xs : List V} : atI (x :: xs) 0 = some x := atI_nat (j := 0) rfl
theorem at1 {x y : V} {xs : List V} : atI (x :: y :: xs) 1 = some y := atI_nat (j := 1) rfl
theorem at2 {x y z : V} {xs : List V} : atI (x :: y :: z :: xs) 2 = some z := atI_nat (j := 2) rfl

/-! fractions -/
/-- the law's own lowest terms -/
def low (t b : Int) : Int × Int := (t / (Nat.gcd t.natAbs b.natAbs : Nat) * (if b < 0 then -1 else 1), (b.natAbs : Int) / (Nat.gcd t.natAbs b.natAbs : Nat))
structure IsLow (t b : Int) : Prop where
  pos : 0 < b
  cop : Nat.gcd t.natAbs b.natAbs = 1
theorem dvd_mul {a b : Int} (h : a ∣ b) : a * (b / a) = b := Int.mul_ediv_cancel' h
theorem low_facts (t b : Int) (hb : b ≠ 0) : IsLow (low t b).1 (low t b).2 ∧ t * (low t b).2 = (low t b).1 * b := by
  have hg : 0 < Nat.gcd t.natAbs b.natAbs := Nat.gcd_pos_of_pos_right _ (by omega)
  generalize e : Nat.gcd t.natAbs b.natAbs = g at hg
  have d1 : g ∣ t.natAbs := e ▸ Nat.gcd_dvd_left _ _
  have d2 : g ∣ b.natAbs := e ▸ Nat.gcd_dvd_right _ _
  obtain ⟨x, hx⟩ := d1
  obtain ⟨y, hy⟩ := d2
  have hc : Nat.gcd x y = 1 := by
    rw [hx, hy, Nat.gcd_mul_left] at e
    exact Nat.eq_of_mul_eq_mul_left hg (by rw [e, Nat.mul_one])
  have hy0 : 0 < y := by
    rcases Nat.eq_zero_or_pos y with z | z
    · rw [z, Nat.mul_zero] at hy
      omega
    · exact z
  have h2 : (low t b).2 = (y : Int) := by
    show (b.natAbs : Int) / (Nat.gcd t.natAbs b.natAbs : Nat) = (y : Int)
    rw [e, hy, Int.natCast_mul]
    exact Int.mul_ediv_cancel_left _ (by omega)
  have ht : t = (g : Int) * x ∨ t = -((g : Int) * x) := by
    have q : (t.natAbs : Int) = (g : Int) * x := by rw [hx, Int.natCast_mul]
    omega
  have hbb : (b.natAbs : Int) = (g : Int) * y := by rw [hy, Int.natCast_mul]
  have h1 : (low t b).1 = (t / (g : Int)) * (if b < 0 then -1 else 1) := by
    show t / (Nat.gcd t.natAbs b.natAbs : Nat) * (if b < 0 then -1 else 1) = _
    rw [e]
  have h3 : t / (g : Int) = x ∨ t / (g : Int) = -(x : Int) := by
    rcases ht with q | q
    · left
      rw [q]
      exact Int.mul_ediv_cancel_left _ (by omega)
    · right
      rw [q, ← Int.mul_neg]
      exact Int.mul_ediv_cancel_left _ (by omega)
  have h4 : (g : Int) * (t / (g : Int)) = t := dvd_mul (by
    rcases ht with q | q
    · exact ⟨x, q⟩
    · exact ⟨-x, by rw [q, Int.mul_neg]⟩)
  refine ⟨⟨by rw [h2]; omega, ?_⟩, ?_⟩
  · rw [h2, h1]
    have q : ((t / (g : Int)) * (if b < 0 then -1 else 1)).natAbs = x := by
      split <;> rcases h3 with z | z <;> rw [z] <;> omega
    rw [q]
    exact hc
  · rw [h2, h1]
    by_cases c : b < 0
    · rw [if_pos c]
      have q : b = -((g : Int) * y) := by omega
      grind
    · rw [if_neg c]
      have q : b = (g : Int) * y := by omega
      grind
theorem low_pos (t b : Int) (hb : b ≠ 0) : 0 < (low t b).2 := (low_facts t b hb).1.pos
/-- two fractions in lowest terms that are alike across are one -/
theorem isLow_uniq {x y u v : Int} (h : IsLow x y) (k : IsLow u v) (e : x * v = u * y) : x = u ∧ y = v := by
  have h1 := h.pos
  have k1 := k.pos
  have e1 : x.natAbs * v.natAbs = u.natAbs * y.natAbs := by rw [← Int.natAbs_mul, ← Int.natAbs_mul, e]
  have d1 : y.natAbs ∣ v.natAbs := (Nat.Coprime.symm h.cop).dvd_of_dvd_mul_left (by rw [e1]; exact Nat.dvd_mul_left _ _)
  have d2 : v.natAbs ∣ y.natAbs := (Nat.Coprime.symm k.cop).dvd_of_dvd_mul_left (by rw [← e1]; exact Nat.dvd_mul_left _ _)
  have e2 : y.natAbs = v.natAbs := Nat.dvd_antisymm d1 d2
  have e3 : y = v := by omega
  subst e3
  exact ⟨Int.eq_of_mul_eq_mul_right (by omega) e, rfl⟩
theorem low_eq {t b x y : Int} (hb : b ≠ 0) (h : IsLow x y) (e : t * y = x * b) : low t b = (x, y) := by
  obtain ⟨h1, h2⟩ := low_facts t b hb
  have q : (low t b).1 * y = x * (low t b).2 := by
    have z : b * ((low t b).1 * y) = b * (x * (low t b).2) := by grind
    exact Int.eq_of_mul_eq_mul_left hb z
  obtain ⟨a1, a2⟩ := isLow_uniq h1 h q
  exact Prod.ext a1 a2
theorem low_id {t b : Int} (h : IsLow t b) : low t b = (t, b) := low_eq (by have := h.pos; omega) h rfl
theorem low_le (t b : Int) : (low t b).1.natAbs ≤ t.natAbs ∧ (low t b).2.natAbs ≤ b.natAbs := by
  generalize e : Nat.gcd t.natAbs b.natAbs = g
  have h1 : (low t b).1 = (t / (g : Int)) * (if b < 0 then -1 else 1) := by
    show t / (Nat.gcd t.natAbs b.natAbs : Nat) * (if b < 0 then -1 else 1) = _
    rw [e]
  have h2 : (low t b).2 = (b.natAbs : Int) / (g : Int) := by
    show (b.natAbs : Int) / (Nat.gcd t.natAbs b.natAbs : Nat) = _
    rw [e]
  have d1 : (g : Int) ∣ t := e ▸ Int.ofNat_dvd_left.mpr (Nat.gcd_dvd_left _ _)
  constructor
  · rw [h1]
    have q : (t / (g : Int) * (if b < 0 then -1 else 1)).natAbs = (t / (g : Int)).natAbs := by
      split <;> omega
    rw [q]
    obtain ⟨z, rfl⟩ := d1
    by_cases c : (g : Int) = 0
    · rw [c, Int.zero_mul, Int.zero_ediv]
      omega
    · rw [Int.mul_ediv_cancel_left _ c, Int.natAbs_mul]
      exact Nat.le_mul_of_pos_left _ (by omega)
  · rw [h2, ← Int.natCast_ediv, Int.natAbs_natCast]
    exact Nat.div_le_self _ _
theorem low_lt {t b : Int} {n : Nat} (h1 : t.natAbs < 2 ^ n) (h2 : b.natAbs < 2 ^ n) : (low t b).1.natAbs < 2 ^ n ∧ (low t b).2.natAbs < 2 ^ n :=
  ⟨Nat.lt_of_le_of_lt (low_le t b).1 h1, Nat.lt_of_le_of_lt (low_le t b).2 h2⟩
/-- a fraction in lowest terms, of fewer than sixty figures -/
structure FrAt (H : Hp) (x : Addr) (a b : Int) : Prop where
  at_ : H x = some (.tup [.int a, .int b])
  low : IsLow a b
  ta : a.natAbs < 2 ^ 200
  tb : b.natAbs < 2 ^ 200
theorem FrAt.same {H H' : Hp} {x : Addr} {a b : Int} (h : FrAt H x a b) (s : Same H H') : FrAt H' x a b := ⟨s _ _ h.at_, h.low, h.ta, h.tb⟩
theorem FrAt.fr {H H' : Hp} {x p : Addr} {a b : Int} {n : Nat} (h : FrAt H x a b) (B : BoxAt H p n) (f : Fr p H H') : FrAt H' x a b := ⟨f.tup B h.at_, h.low, h.ta, h.tb⟩
/-- a new pair of two numbers' lowest terms -/
def sp_low : Sp := fun vs H Q _ => ∃ t b : Int, vs = [.int t, .int b] ∧ b ≠ 0 ∧ t.natAbs < 2 ^ 2000 ∧ b.natAbs < 2 ^ 2000 ∧ ∀ p H', Same H H' → H p = none → H' p = some (.tup [.int (low t b).1, .int (low t b).2]) → Q (.ref p) H'
/-- two pairs in, low of what f and g say of them out -/
def sp_two (K : PySem.W.Frag) (f g : Int → Int → Int → Int → Int) : Sp := fun vs H Q _ => ∃ (x y : Addr) (a b c d : Int), vs = [.ref x, .ref y] ∧ SqT K H x [.int a, .int b] ∧ SqT K H y [.int c, .int d] ∧ g a b c d ≠ 0 ∧ a.natAbs < 2 ^ 900 ∧ b.natAbs < 2 ^ 900 ∧ c.natAbs < 2 ^ 900 ∧ d.natAbs < 2 ^ 900 ∧
  ∀ p H', Same H H' → H p = none → H' p = some (.tup [.int (low (f a b c d) (g a b c d)).1, .int (low (f a b c d) (g a b c d)).2]) → Q (.ref p) H'
/-- by a divisor turned about -/
theorem fdiv_neg {t g : Int} (h : g ∣ t) : t.fdiv (-g) = t / g * -1 := by
  obtain ⟨z, rfl⟩ := h
  by_cases c : g = 0
  · subst c
    simp
  · rw [Int.mul_ediv_cancel_left _ c, show g * z = (-g) * (-z) by grind, Int.mul_fdiv_cancel_left _ (by omega)]
    omega

/-! data of the law's own making, n deep -/
theorem Same.put {H0 H : Hp} {D : Addr} {o : HO} (s : Same H0 H) (h : H0 D = none) : Same H0 (upd H D o) := fun b u e => by
  rw [upd_ne (ne_of_none e h)]
  exact s b u e
inductive Dt (H : Hp) : Nat → V → PyData → Prop
  | non (n : Nat) : Dt H (n + 1) .non .none
  | bl (n : Nat) (b : Bool) : Dt H (n + 1) (.bl b) (.bool b)
  | int (n : Nat) (i : Int) : Dt H (n + 1) (.int i) (.int i)
  | str (n : Nat) (x : Str) (ok : PyData.canLay0 (.str x) = true) : Dt H (n + 1) (.str x) (.str x)
  | lst {n : Nat} {a : Addr} {xs : List V} {ds : List PyData} : H a = some (.lst xs) → xs.length = ds.length → xs.length ≤ 100000 → (∀ (i : Nat) (x : V) (d : PyData), xs[i]? = some x → ds[i]? = some d → Dt H n x d) → Dt H (n + 1) (.ref a) (.list ds)
  | tup {n : Nat} {a : Addr} {xs : List V} {ds : List PyData} : H a = some (.tup xs) → xs.length = ds.length → xs.length ≤ 100000 → (∀ (i : Nat) (x : V) (d : PyData), xs[i]? = some x → ds[i]? = some d → Dt H n x d) → Dt H (n + 1) (.ref a) (.tuple ds)
theorem Dt.same {H H' : Hp} (s : Same H H') : ∀ {n : Nat} {v : V} {d : PyData}, Dt H n v d → Dt H' n v d := by
  intro n v d h
  induction h with
  | non n => exact .non n
  | bl n b => exact .bl n b
  | int n i => exact .int n i
  | str n x ok => exact .str n x ok
  | lst h1 h2 h3 _ ih => exact .lst (s _ _ h1) h2 h3 ih
  | tup h1 h2 h3 _ ih => exact .tup (s _ _ h1) h2 h3 ih
theorem Dt.up {H : Hp} {n m : Nat} {v : V} {d : PyData} (h : Dt H n v d) : n ≤ m → Dt H m v d := by
  intro le
  induction h generalizing m with
  | non n => obtain ⟨k, rfl⟩ : ∃ k, m = k + 1 := ⟨m - 1, by omega⟩; exact .non k
  | bl n b => obtain ⟨k, rfl⟩ : ∃ k, m = k + 1 := ⟨m - 1, by omega⟩; exact .bl k b
  | int n i => obtain ⟨k, rfl⟩ : ∃ k, m = k + 1 := ⟨m - 1, by omega⟩; exact .int k i
  | str n x ok => obtain ⟨k, rfl⟩ : ∃ k, m = k + 1 := ⟨m - 1, by omega⟩; exact .str k x ok
  | lst h1 h2 h3 _ ih => obtain ⟨k, rfl⟩ : ∃ k, m = k + 1 := ⟨m - 1, by omega⟩; exact .lst h1 h2 h3 fun i x d a b => ih i x d a b (by omega)
  | tup h1 h2 h3 _ ih => obtain ⟨k, rfl⟩ : ∃ k, m = k + 1 := ⟨m - 1, by omega⟩; exact .tup h1 h2 h3 fun i x d a b => ih i x d a b (by omega)
theorem Dt.tup2 {H : Hp} {n : Nat} {a : Addr} {x y : V} {d e : PyData} (h : H a = some (.tup [x, y])) (h1 : Dt H n x d) (h2 : Dt H n y e) : Dt H (n + 1) (.ref a) (.tuple [d, e]) :=
  .tup h rfl (by show 2 ≤ 100000; decide) fun i u v hu hv => match i, hu, hv with
    | 0, hu, hv => by cases hu; cases hv; exact h1
    | 1, hu, hv => by cases hu; cases hv; exact h2
    | i + 2, hu, _ => by simp at hu
theorem Dt.pair {H : Hp} {a : Addr} {t b : Int} (h : H a = some (.tup [.int t, .int b])) : Dt H 2 (.ref a) (.tuple [.int t, .int b]) := .tup2 h (.int 0 t) (.int 0 b)
theorem Dt.lst2 {H : Hp} {n : Nat} {a : Addr} {x y : V} {d e : PyData} (h : H a = some (.lst [x, y])) (h1 : Dt H n x d) (h2 : Dt H n y e) : Dt H (n + 1) (.ref a) (.list [d, e]) :=
  .lst h rfl (by show 2 ≤ 100000; decide) fun i u v hu hv => match i, hu, hv with
    | 0, hu, hv => by cases hu; cases hv; exact h1
    | 1, hu, hv => by cases hu; cases hv; exact h2
    | i + 2, hu, _ => by simp at hu
theorem Dt.lst3 {H : Hp} {n : Nat} {a : Addr} {x y z : V} {d e f : PyData} (h : H a = some (.lst [x, y, z])) (h1 : Dt H n x d) (h2 : Dt H n y e) (h3 : Dt H n z f) : Dt H (n + 1) (.ref a) (.list [d, e, f]) :=
  .lst h rfl (by show 3 ≤ 100000; decide) fun i u v hu hv => match i, hu, hv with
    | 0, hu, hv => by cases hu; cases hv; exact h1
    | 1, hu, hv => by cases hu; cases hv; exact h2
    | 2, hu, hv => by cases hu; cases hv; exact h3
    | i + 3, hu, _ => by simp at hu
/-- a comprehension over pairs: J hands out a new tuple of px i and py i at each of n turns, while St stands -/
theorem lc_pair {J : It} {n : Nat} {St : Hp → Prop} {px py : Nat → V} (hgo : ∀ i H, i < n → St H → J.go i H) (hst : ∀ H, St H → J.stop n H)
    (hy : ∀ i H v H', i < n → St H → J.yld i H v H' → ∃ T, v = .ref T ∧ H T = none ∧ H' = upd H T (.tup [px i, py i]))
    {g : TG} {tt : TT} {te : TE} {vs : List Nat} {σ : L2.St} {H1 : Hp} {D : Addr} {Qd : Hp → Prop} (Pv : Nat → Hp → Prop) (h0 : Pv 0 (upd H1 D (.lst []))) (hq : ∀ i H, i ≤ n → Pv i H → St H)
    (hs : ∀ i T H, i < n → Pv i H → H T = none → g (.ref T) (wipe σ vs) (upd H T (.tup [px i, py i])) fun σ2 H2 => wipe σ2 vs = wipe σ vs ∧ tt σ2 H2 fun b H3 =>
      if b = true then te σ2 H3 fun y H4 => ∃ acc, H4 D = some (.lst acc) ∧ acc.length < sizeLine ∧ Pv (i + 1) (upd H4 D (.lst (acc ++ [y]))) else Pv (i + 1) H3) (hd : ∀ H, Pv n H → Qd H) :
    ∃ W : Nat → Nat → Hp → Prop, (∃ m, W 0 m (upd H1 D (.lst []))) ∧ ∀ i m H, W i m H →
      (J.stop i H ∧ Qd H) ∨ (J.go i H ∧ ∃ Nx : Hp → Prop, (∀ H', Nx H' → ∃ m', m' < m ∧ W (i + 1) m' H') ∧ ∀ x H', J.yld i H x H' → g x (wipe σ vs) H' fun σ2 H2 => wipe σ2 vs = wipe σ vs ∧ tt σ2 H2 fun b H3 =>
        if b = true then te σ2 H3 fun y H4 => ∃ acc, H4 D = some (.lst acc) ∧ acc.length < sizeLine ∧ Nx (upd H4 D (.lst (acc ++ [y]))) else Nx H3) := by
  refine ⟨fun i m H => i + m = n ∧ Pv i H, ⟨n, by omega, h0⟩, fun i m H w => ?_⟩
  obtain ⟨e, p⟩ := w
  have q := hq i H (by omega) p
  rcases Nat.lt_or_ge i n with lt | ge
  · refine Or.inr ⟨hgo i H lt q, Pv (i + 1), fun H' p' => ⟨m - 1, by omega, by omega, p'⟩, fun x H' y => ?_⟩
    obtain ⟨T, rfl, nT, rfl⟩ := hy i H x H' lt q y
    exact hs i T H lt p nT
  · obtain rfl : i = n := by omega
    exact Or.inl ⟨hst H q, hd H p⟩
theorem zipL_go {K : PySem.W.Frag} {a b : Addr} {xs ys : List V} {n : Nat} (h1 : xs.length = n) (h2 : ys.length = n) {i : Nat} {H : Hp} (lt : i < n) (q : SqL K H a xs ∧ SqL K H b ys) : (Itz K a b).go i H :=
  ⟨xs, ys, _, _, q.1, q.2, List.getElem?_eq_getElem (by omega), List.getElem?_eq_getElem (by omega)⟩
theorem zipL_stop {K : PySem.W.Frag} {a b : Addr} {xs ys : List V} {n : Nat} (h1 : xs.length = n) {H : Hp} (q : SqL K H a xs ∧ SqL K H b ys) : (Itz K a b).stop n H := ⟨xs, ys, q.1, q.2, .inl (by omega)⟩
theorem zipL_yld {K : PySem.W.Frag} {a b : Addr} {xs ys : List V} {n : Nat} (h1 : xs.length = n) (h2 : ys.length = n) {i : Nat} {H H' : Hp} {v : V} (lt : i < n) (q : SqL K H a xs ∧ SqL K H b ys) (y : (Itz K a b).yld i H v H') :
    ∃ T, v = .ref T ∧ H T = none ∧ H' = upd H T (.tup [xs.getD i .non, ys.getD i .non]) := by
  obtain ⟨T, x, y, rfl, nT, rfl, f1, f2⟩ := y
  refine ⟨T, rfl, nT, ?_⟩
  rw [List.getD_eq_getElem?_getD, List.getD_eq_getElem?_getD, f1 _ q.1, f2 _ q.2] <;> rfl
theorem zipT_go {K : PySem.W.Frag} {a b : Addr} {xs ys : List V} {n : Nat} (h1 : xs.length = n) (h2 : ys.length = n) {i : Nat} {H : Hp} (lt : i < n) (q : SqT K H a xs ∧ SqT K H b ys) : (RZ.ItzT K a b).go i H :=
  ⟨xs, ys, _, _, q.1, q.2, List.getElem?_eq_getElem (by omega), List.getElem?_eq_getElem (by omega)⟩
theorem zipT_stop {K : PySem.W.Frag} {a b : Addr} {xs ys : List V} {n : Nat} (h1 : xs.length = n) {H : Hp} (q : SqT K H a xs ∧ SqT K H b ys) : (RZ.ItzT K a b).stop n H := ⟨xs, ys, q.1, q.2, .inl (by omega)⟩
theorem zipT_yld {K : PySem.W.Frag} {a b : Addr} {xs ys : List V} {n : Nat} (h1 : xs.length = n) (h2 : ys.length = n) {i : Nat} {H H' : Hp} {v : V} (lt : i < n) (q : SqT K H a xs ∧ SqT K H b ys) (y : (RZ.ItzT K a b).yld i H v H') :
    ∃ T, v = .ref T ∧ H T = none ∧ H' = upd H T (.tup [xs.getD i .non, ys.getD i .non]) := by
  obtain ⟨T, x, y, rfl, nT, rfl, f1, f2⟩ := y
  refine ⟨T, rfl, nT, ?_⟩
  rw [List.getD_eq_getElem?_getD, List.getD_eq_getElem?_getD, f1 _ q.1, f2 _ q.2] <;> rfl
theorem getD_of {xs : List V} {i : Nat} (h : i < xs.length) : xs[i]? = some (xs.getD i .non) := by
  rw [List.getD_eq_getElem?_getD, List.getElem?_eq_getElem h] <;> rfl
theorem yesT {σ : L2.St} {H : Hp} {A B : Hp → Prop} (h : A H) : tYes σ H fun b H3 => if b = true then A H3 else B H3 := iteT (A := A H) (B := B H) h
/-- True so often -/
theorem all_true (n : Nat) : (List.replicate n true).map V.bl = List.replicate n (V.bl true) ∧ (List.replicate n true).all id = true := by
  refine ⟨List.map_replicate, ?_⟩
  induction n with
  | zero => rfl
  | succ n ih => rw [List.replicate_succ, List.all_cons, ih] <;> rfl

/-- a def of the text, where it stands and how it is called -/
structure Def (K : PySem.W.Frag) (mg : Str → Option Value) (name : Str) (st : Stmt) (f : Addr) (fd : FuncData) (ps : List Str) : Prop where
  fn : Fun K name name st f fd
  mg : mg name = some (.ref f)
  b : Binds K fd ps []
/-! rules whose written part is a letter -/
section
variable {X : Cx} {K : PySem.W.Frag}
theorem ixL (h : X.K = K) : IxR X (rIxL K) := h ▸ ix_list
theorem ixT (h : X.K = K) : IxR X (rIxT K) := h ▸ ix_tup
theorem ixQ (h : X.K = K) : IxR X (rIx K) := h ▸ ix_seq
def rLenQ (K : PySem.W.Frag) : List V → Hp → VK → Prop := fun xs H Q => ∃ p ys, xs = [.ref p] ∧ (SqL K H p ys ∨ SqT K H p ys) ∧ Q (.int (ys.length : Nat)) H
theorem lenQ (h : X.K = K) : CallR X (.builtin "len") (rLenQ K) := h ▸ call_len_seq
def rLenA (K : PySem.W.Frag) : List V → Hp → VK → Prop := fun xs H Q => ∃ x n, xs = [x] ∧ LenV K x H n ∧ Q (.int (n : Nat)) H
theorem lenA (h : X.K = K) : CallR X (.builtin "len") (rLenA K) := h ▸ call_len
theorem isiK (h : X.K = K) : CallR X (.builtin "isinstance") (rIsi K) := h ▸ call_isi
theorem isiTK (h : X.K = K) : CallR X (.builtin "isinstance") (rIsiT K) := h ▸ call_isiT
theorem allK (h : X.K = K) (hc : X.calm = true) : CallR X (.builtin "all") (rAll K) := h ▸ cr_all hc
theorem anyK (h : X.K = K) (hc : X.calm = true) : CallR X (.builtin "any") (rAny K) := h ▸ cr_any hc
theorem sumK (h : X.K = K) (hc : X.calm = true) : CallR X (.builtin "sum") (rSum K) := h ▸ cr_sum hc
theorem eqDK (h : X.K = K) (hu : X.A.units + 64 < cLine) : OpR X (compareOp .Eq) (rEqD K) := h ▸ op_eqD hu
theorem neDK (h : X.K = K) (hu : X.A.units + 64 < cLine) : OpR X (compareOp .NotEq) (rNeD K) := h ▸ op_neD hu
theorem inQ (h : X.K = K) : OpR X (compareOp .In) (rIn K false) := h ▸ op_in_seq
theorem notInQ (h : X.K = K) : OpR X (compareOp .NotIn) (rIn K true) := h ▸ op_notIn_seq
theorem pi_listK {tg l : Expr} {tl : TE} (h : X.K = K) (hl : PE X l tl) : PI X tg l (iList K tl) := h ▸ pi_list hl
theorem pi_tupK {tg l : Expr} {tl : TE} (h : X.K = K) (hl : PE X l tl) : PI X tg l (iTup K tl) := h ▸ pi_tup hl
theorem pi_zipK {e e2 : Expr} {ta : TA} {p pos tpos : Pos} {elts : List Expr} {kk : Nat} (h : X.K = K) (hg : Gl X "zip") (hm : X.mg "zip" = none) (ha : PA X [e, e2] ta)
    (hs : starEach [e, e2] X.env = (false, eval e X.env) :: starEach [e2] X.env := by rfl) (hpl : (backTo pos (starEach [e2] X.env)).any (·.1) = false := by rfl) :
    PI X (.Tuple elts kk tpos) (.Call (.Name "zip" p) [e, e2] [] pos) (RZ.iZipA K ta) := h ▸ RZ.pi_zipA hg hm ha hs hpl
theorem pi_enumK {e : Expr} {ta : TA} {p pos tpos : Pos} {elts : List Expr} {kk : Nat} (h : X.K = K) (hg : Gl X "enumerate") (hm : X.mg "enumerate" = none) (ha : PA X [e] ta) (hs : starEach [e] X.env = [(false, eval e X.env)] := by rfl) :
    PI X (.Tuple elts kk tpos) (.Call (.Name "enumerate" p) [e] [] pos) (iEnum K ta) := h ▸ pi_enum hg hm ha hs
theorem pg_tupK {es : List Expr} {k : Nat} {pos : Pos} {t : TGs} {n : Nat} (h : X.K = K) (hc : X.calm = true) (ht : PGs X es t) (hn : (assignEach es X.env).length = n := by rfl) (hst : (assignEach es X.env).findIdx? (·.1) = none := by rfl) :
    PG X (.Tuple es k pos) (gTup K n t) := h ▸ pg_tup hc ht hn hst
/-- a new slice, a new list of what a thing holds -/
def rSlLI (K : PySem.W.Frag) : V → Option Int → Option Int → Hp → VK → Prop := fun x lo hi H Q => ∃ a xs, x = .ref a ∧ SqL K H a xs ∧ ∀ p H', Same H H' → H p = none → H' p = some (.lst (cutV xs lo hi)) → Q (.ref p) H'
theorem slL (h : X.K = K) : SlR X (rSlLI K) := fun pins s σ H x v vl vu lo hi sl Q I rx hs pl pu ⟨a, xs, e, q, k⟩ =>
  sl_list pins s σ H x v vl vu lo hi sl Q I rx hs pl pu ⟨a, xs, e, h ▸ q, fun p hp => k p _ (same_new hp) hp upd_same⟩
def rListI (K : PySem.W.Frag) : List V → Hp → VK → Prop := fun xs H Q => ∃ p ys, xs = [.ref p] ∧ (SqL K H p ys ∨ SqT K H p ys) ∧ ∀ l H', Same H H' → H l = none → H' l = some (.lst ys) → Q (.ref l) H'
theorem listI (h : X.K = K) : CallR X (.type "list") (rListI K) := fun pins s σ H xs us Q I r ⟨p, ys, e, q, k⟩ =>
  call_list_of pins s σ H xs us Q I r ⟨p, ys, e, h ▸ q, fun l hl => k l _ (same_new hl) hl upd_same⟩
end
/-! lists of fractions: addresses, tops, bottoms -/
abbrev Fq := Addr × Int × Int
def refs (l : List Fq) : List V := l.map fun z => V.ref z.1
def dat (z : Fq) : PyData := .tuple [.int z.2.1, .int z.2.2]
structure FqAt (H : Hp) (n : Nat) (z : Fq) : Prop where
  at_ : H z.1 = some (.tup [.int z.2.1, .int z.2.2])
  low : IsLow z.2.1 z.2.2
  ta : z.2.1.natAbs ≤ 10 ^ 41 + n
  tb : z.2.2.natAbs ≤ 10 ^ 41 + n
def FrL (H : Hp) (n : Nat) (l : List Fq) : Prop := ∀ z ∈ l, FqAt H n z
theorem FqAt.fr {H H' : Hp} {p : Addr} {n m k : Nat} {z : Fq} (h : FqAt H n z) (B : BoxAt H p m) (f : Fr p H H') (le : n ≤ k) : FqAt H' k z := ⟨f.tup B h.at_, h.low, by have := h.ta; omega, by have := h.tb; omega⟩
theorem FqAt.same {H H' : Hp} {n : Nat} {z : Fq} (h : FqAt H n z) (s : Same H H') : FqAt H' n z := ⟨s _ _ h.at_, h.low, h.ta, h.tb⟩
theorem FrL.fr {H H' : Hp} {p : Addr} {n m k : Nat} {l : List Fq} (h : FrL H n l) (B : BoxAt H p m) (f : Fr p H H') (le : n ≤ k) : FrL H' k l := fun z hz => (h z hz).fr B f le
theorem FrL.same {H H' : Hp} {n : Nat} {l : List Fq} (h : FrL H n l) (s : Same H H') : FrL H' n l := fun z hz => (h z hz).same s
theorem FqAt.wide {H : Hp} {n : Nat} {z : Fq} (h : FqAt H n z) (le : n ≤ 1000) : z.2.1.natAbs < 2 ^ 200 ∧ z.2.2.natAbs < 2 ^ 200 := by
  have h1 := h.ta
  have h2 := h.tb
  have e : 10 ^ 41 + 1000 < 2 ^ 200 := by decide
  omega
theorem refs_len (l : List Fq) : (refs l).length = l.length := List.length_map _
theorem refs_get {l : List Fq} {i : Nat} {z : Fq} (h : l[i]? = some z) : (refs l)[i]? = some (.ref z.1) := by
  unfold refs
  rw [List.getElem?_map, h] <;> rfl
theorem refs_of {l : List Fq} {i : Nat} {x : V} (h : (refs l)[i]? = some x) : ∃ z, l[i]? = some z ∧ x = .ref z.1 := by
  unfold refs at h
  rw [List.getElem?_map] at h
  cases e : l[i]? with
  | none =>
    rw [e] at h
    cases h
  | some z =>
    rw [e] at h
    exact ⟨z, rfl, (Option.some.inj h).symm⟩
theorem dp_pair {K : PySem.W.Frag} {H : Hp} {a : Addr} {t b : Int} (h : H a = some (.tup [.int t, .int b])) : Dp K H (.ref a) (.tuple [.int t, .int b]) := .tup (SqT.of h) (.cons (.int _) (.cons (.int _) .nil))
theorem FrL.dps {K : PySem.W.Frag} {H : Hp} {n : Nat} : ∀ {l : List Fq}, FrL H n l → DpAll K H (refs l) (l.map dat)
  | [], _ => .nil
  | z :: r, h => .cons (dp_pair (h z List.mem_cons_self).at_) (FrL.dps fun y hy => h y (List.mem_cons_of_mem _ hy))
theorem dats_lay (l : List Fq) : PyData.canLayAll0 (l.map dat) = true ∧ PyData.depthAll (l.map dat) ≤ 1 := by
  induction l with
  | nil => exact ⟨rfl, by decide⟩
  | cons z r ih =>
    refine ⟨?_, ?_⟩
    · show (PyData.canLay0 (dat z) && PyData.canLayAll0 (r.map dat)) = true
      rw [ih.1]
      rfl
    · show max (PyData.depth (dat z)) (PyData.depthAll (r.map dat)) ≤ 1
      have e : PyData.depth (dat z) = 1 := rfl
      omega
theorem dats_shaped (l : List Fq) : SeqAt.shaped (.list (l.map dat)) = true := by
  obtain ⟨h1, h2⟩ := dats_lay l
  show (PyData.canLayAll0 (l.map dat) && decide (PyData.depthAll (l.map dat) + 1 ≤ 64)) = true
  rw [h1, decide_eq_true (by omega)] <;> rfl
theorem dats_nil (l : List Fq) : PyData.eqv (.list (l.map dat)) (.list []) = l.isEmpty := by
  cases l <;> rfl
theorem eqv_pair {a b c d : Int} : PyData.eqv (.tuple [.int a, .int b]) (.tuple [.int c, .int d]) = decide (a = c ∧ b = d) := by
  show ((a == c) && ((b == d) && true)) = decide (a = c ∧ b = d)
  rw [Bool.and_true, Bool.decide_and]
  rfl
/-! data of any make beside the box p -/
inductive Da (p : Addr) (H : Hp) : Nat → V → PyData → Prop
  | non (n : Nat) : Da p H (n + 1) .non .none
  | bl (n : Nat) (b : Bool) : Da p H (n + 1) (.bl b) (.bool b)
  | int (n : Nat) (i : Int) : Da p H (n + 1) (.int i) (.int i)
  | str (n : Nat) (x : Str) : Da p H (n + 1) (.str x) (.str x)
  | lst {n : Nat} {a : Addr} {xs : List V} {ds : List PyData} : a ≠ p → H a = some (.lst xs) → xs.length = ds.length → xs.length ≤ 100000 → (∀ (i : Nat) (x : V) (d : PyData), xs[i]? = some x → ds[i]? = some d → Da p H n x d) → Da p H (n + 1) (.ref a) (.list ds)
  | tup {n : Nat} {a : Addr} {xs : List V} {ds : List PyData} : a ≠ p → H a = some (.tup xs) → xs.length = ds.length → xs.length ≤ 100000 → (∀ (i : Nat) (x : V) (d : PyData), xs[i]? = some x → ds[i]? = some d → Da p H n x d) → Da p H (n + 1) (.ref a) (.tuple ds)
theorem Da.fr {p : Addr} {H H' : Hp} (s : Fr p H H') : ∀ {n : Nat} {v : V} {d : PyData}, Da p H n v d → Da p H' n v d := by
  intro n v d h
  induction h with
  | non n => exact .non n
  | bl n b => exact .bl n b
  | int n i => exact .int n i
  | str n x => exact .str n x
  | lst h0 h1 h2 h3 _ ih => exact .lst h0 (s _ _ h0 h1) h2 h3 ih
  | tup h0 h1 h2 h3 _ ih => exact .tup h0 (s _ _ h0 h1) h2 h3 ih
theorem Da.up {p : Addr} {H : Hp} {n m : Nat} {v : V} {d : PyData} (h : Da p H n v d) : n ≤ m → Da p H m v d := by
  intro le
  induction h generalizing m with
  | non n => obtain ⟨k, rfl⟩ : ∃ k, m = k + 1 := ⟨m - 1, by omega⟩; exact .non k
  | bl n b => obtain ⟨k, rfl⟩ : ∃ k, m = k + 1 := ⟨m - 1, by omega⟩; exact .bl k b
  | int n i => obtain ⟨k, rfl⟩ : ∃ k, m = k + 1 := ⟨m - 1, by omega⟩; exact .int k i
  | str n x => obtain ⟨k, rfl⟩ : ∃ k, m = k + 1 := ⟨m - 1, by omega⟩; exact .str k x
  | lst h0 h1 h2 h3 _ ih => obtain ⟨k, rfl⟩ : ∃ k, m = k + 1 := ⟨m - 1, by omega⟩; exact .lst h0 h1 h2 h3 fun i x d a b => ih i x d a b (by omega)
  | tup h0 h1 h2 h3 _ ih => obtain ⟨k, rfl⟩ : ∃ k, m = k + 1 := ⟨m - 1, by omega⟩; exact .tup h0 h1 h2 h3 fun i x d a b => ih i x d a b (by omega)
/-- each of a row is such data -/
def AllDa (p : Addr) (H : Hp) (n : Nat) (xs : List V) : Prop := ∀ x ∈ xs, ∃ d, Da p H n x d
theorem AllDa.fr {p : Addr} {H H' : Hp} {n : Nat} {xs : List V} (h : AllDa p H n xs) (s : Fr p H H') : AllDa p H' n xs := fun x hx => (h x hx).elim fun d q => ⟨d, q.fr s⟩
theorem AllDa.up {p : Addr} {H : Hp} {n m : Nat} {xs : List V} (h : AllDa p H n xs) (le : n ≤ m) : AllDa p H m xs := fun x hx => (h x hx).elim fun d q => ⟨d, q.up le⟩
theorem AllDa.nil {p : Addr} {H : Hp} {n : Nat} : AllDa p H n [] := fun x hx => absurd hx List.not_mem_nil
theorem AllDa.cons {p : Addr} {H : Hp} {n : Nat} {x : V} {xs : List V} (h : ∃ d, Da p H n x d) (t : AllDa p H n xs) : AllDa p H n (x :: xs) := fun y hy => by
  rcases List.mem_cons.mp hy with e | e
  · rw [e]
    exact h
  · exact t y e
theorem AllDa.append {p : Addr} {H : Hp} {n : Nat} {xs ys : List V} (h : AllDa p H n xs) (t : AllDa p H n ys) : AllDa p H n (xs ++ ys) := fun y hy => by
  rcases List.mem_append.mp hy with e | e
  · exact h y e
  · exact t y e
/-- what the datas of a row are -/
theorem AllDa.pick {p : Addr} {H : Hp} {n : Nat} : ∀ {xs : List V}, AllDa p H n xs → ∃ ds : List PyData, xs.length = ds.length ∧ ∀ (i : Nat) (x : V) (d : PyData), xs[i]? = some x → ds[i]? = some d → Da p H n x d
  | [], _ => ⟨[], rfl, fun i x d h => by simp at h⟩
  | x :: xs, h => by
    obtain ⟨d, q⟩ := h x List.mem_cons_self
    obtain ⟨ds, e, r⟩ := AllDa.pick (xs := xs) fun y hy => h y (List.mem_cons_of_mem _ hy)
    refine ⟨d :: ds, by rw [List.length_cons, List.length_cons, e], fun i y c h1 h2 => ?_⟩
    match i, h1, h2 with
    | 0, h1, h2 => cases h1; cases h2; exact q
    | i + 1, h1, h2 => exact r i y c h1 h2
theorem AllDa.tup {p : Addr} {H : Hp} {n : Nat} {xs : List V} {a : Addr} (h : AllDa p H n xs) (ne : a ≠ p) (e : H a = some (.tup xs)) (z : Nat.ble xs.length 100000 = true := by rfl) : ∃ d, Da p H (n + 1) (.ref a) d := by
  obtain ⟨ds, l, r⟩ := h.pick
  exact ⟨_, .tup ne e l (Nat.le_of_ble_eq_true z) r⟩
theorem AllDa.lst {p : Addr} {H : Hp} {n : Nat} {xs : List V} {a : Addr} (h : AllDa p H n xs) (ne : a ≠ p) (e : H a = some (.lst xs)) (z : Nat.ble xs.length 100000 = true := by rfl) : ∃ d, Da p H (n + 1) (.ref a) d := by
  obtain ⟨ds, l, r⟩ := h.pick
  exact ⟨_, .lst ne e l (Nat.le_of_ble_eq_true z) r⟩
theorem daI {p : Addr} {H : Hp} {n : Nat} (i : Int) : ∃ d, Da p H (n + 1) (.int i) d := ⟨_, .int n i⟩
theorem daB {p : Addr} {H : Hp} {n : Nat} (b : Bool) : ∃ d, Da p H (n + 1) (.bl b) d := ⟨_, .bl n b⟩
theorem daS {p : Addr} {H : Hp} {n : Nat} (x : Str) : ∃ d, Da p H (n + 1) (.str x) d := ⟨_, .str n x⟩
theorem daN {p : Addr} {H : Hp} {n : Nat} : ∃ d, Da p H (n + 1) .non d := ⟨_, .non n⟩
theorem AllDa.one {p : Addr} {H : Hp} {n m : Nat} {x : V} (h : ∃ d, Da p H n x d) (le : n ≤ m) : AllDa p H m [x] := .cons (h.elim fun d q => ⟨d, q.up le⟩) .nil
theorem AllDa.two {p : Addr} {H : Hp} {n : Nat} {x y : V} (h : ∃ d, Da p H n x d) (k : ∃ d, Da p H n y d) : AllDa p H n [x, y] := .cons h (.cons k .nil)
theorem da_fr {p : Addr} {H H' : Hp} {n : Nat} {v : V} (h : ∃ d, Da p H n v d) (s : Fr p H H') : ∃ d, Da p H' n v d := h.elim fun d q => ⟨d, q.fr s⟩
theorem da_up {p : Addr} {H : Hp} {n m : Nat} {v : V} (h : ∃ d, Da p H n v d) (le : n ≤ m) : ∃ d, Da p H m v d := h.elim fun d q => ⟨d, q.up le⟩
theorem BoxAt.new {H : Hp} {p a : Addr} {n : Nat} (h : BoxAt H p n) (e : H a = none) : a ≠ p := by
  obtain ⟨o, ho⟩ := h.some
  exact (ne_of_none ho e).symm
/-- an item at a place that is there -/
theorem at_some {xs : List V} {z : Int} (h0 : 0 ≤ z) (h1 : z < (xs.length : Int)) : ∃ v, atI xs z = some v ∧ v ∈ xs := by
  have g : xs[z.toNat]? = some xs[z.toNat] := List.getElem?_eq_getElem (by omega)
  exact ⟨_, at_of (j := z.toNat) (by omega) g, List.getElem_mem _⟩
/-- which kinds of built-in classes a data is of -/
def isTupD : PyData → Bool
  | .tuple _ => true
  | _ => false
def isIntD : PyData → Bool
  | .int _ => true
  | .bool _ => true
  | _ => false
def isBoolD : PyData → Bool
  | .bool _ => true
  | _ => false
def isListD : PyData → Bool
  | .list _ => true
  | _ => false
def isStrD : PyData → Bool
  | .str _ => true
  | _ => false
structure Kinds (K : PySem.W.Frag) (H : Hp) (v : V) (d : PyData) (t : String) : Prop where
  ty : TyX K H v (.type t)
  tup : kitB t "tuple" = some (isTupD d)
  lst : kitB t "list" = some (isListD d)
  int : kitB t "int" = some (isIntD d)
  bool : kitB t "bool" = some (isBoolD d)
  str : kitB t "str" = some (isStrD d)
theorem Da.kinds {K : PySem.W.Frag} {p : Addr} {H : Hp} {n : Nat} {v : V} {d : PyData} (h : Da p H n v d) : ∃ t, Kinds K H v d t := by
  cases h with
  | non => exact ⟨"NoneType", .base .non, by decide +kernel, by decide +kernel, by decide +kernel, by decide +kernel, by decide +kernel⟩
  | bl _ b => exact ⟨"bool", .base (.bl b), by show _ = some false; decide +kernel, by show _ = some false; decide +kernel, by show _ = some true; decide +kernel, by show _ = some true; decide +kernel, by show _ = some false; decide +kernel⟩
  | int _ i => exact ⟨"int", .base (.int i), by show _ = some false; decide +kernel, by show _ = some false; decide +kernel, by show _ = some true; decide +kernel, by show _ = some false; decide +kernel, by show _ = some false; decide +kernel⟩
  | str _ x => exact ⟨"str", .base (.str x), by show _ = some false; decide +kernel, by show _ = some false; decide +kernel, by show _ = some false; decide +kernel, by show _ = some false; decide +kernel, by show _ = some true; decide +kernel⟩
  | lst _ a1 => exact ⟨"list", .base (.lst a1), by show _ = some false; decide +kernel, by show _ = some true; decide +kernel, by show _ = some false; decide +kernel, by show _ = some false; decide +kernel, by show _ = some false; decide +kernel⟩
  | tup _ a1 => exact ⟨"tuple", .base (.tup a1), by show _ = some true; decide +kernel, by show _ = some false; decide +kernel, by show _ = some false; decide +kernel, by show _ = some false; decide +kernel, by show _ = some false; decide +kernel⟩
/-- repr of a truth -/
theorem cr_reprB {X : Cx} : CallR X (.builtin "repr") (fun xs H Q => ∃ b : Bool, xs = [.bl b] ∧ Q (.str (if b = true then "True" else "False")) H) := by
  intro pins s σ H xs us Q I r h
  obtain ⟨b, rfl, q⟩ := h
  cases r with
  | cons r1 r2 =>
    cases r2
    cases r1
    exact PySem.P.repr_of_bool ⟨.str _, H, I.tok _, ⟨_, rfl⟩, q⟩
/-- xs + ys, a new list -/
def rCatI : R2 := fun x y H Q => ∃ l b xs zs, x = .ref l ∧ y = .ref b ∧ H l = some (.lst xs) ∧ H b = some (.lst zs) ∧ xs.length + zs.length ≤ sizeLine ∧ ∀ p H', Same H H' → H p = none → H' p = some (.lst (xs ++ zs)) → Q (.ref p) H'
theorem op_catI {X : Cx} : OpR X (binaryOp .Add) rCatI := fun pins s σ H x y v u Q I rx ry ⟨l, b, xs, zs, e1, e2, h1, h2, z, k⟩ =>
  op_cat pins s σ H x y v u Q I rx ry ⟨l, b, xs, zs, e1, e2, h1, h2, z, fun p hp => k p _ (same_new hp) hp upd_same⟩
/-- a number; a fraction -/
def isNumD (d : PyData) : Bool := isIntD d && !isBoolD d
def isFracD : PyData → Bool
  | .tuple [.int t, .int b] => decide (0 < b) && decide (Nat.gcd t.natAbs b.natAbs = 1)
  | _ => false
theorem frac_no {d e : PyData} (h : isNumD d = false ∨ isNumD e = false) : isFracD (.tuple [d, e]) = false := by
  cases d <;> cases e <;> first | rfl | (rcases h with h | h <;> cases h)
theorem frac_len {ds : List PyData} (h : ds.length ≠ 2) : isFracD (.tuple ds) = false := by
  match ds, h with
  | [], _ => rfl
  | [d], _ => cases d <;> rfl
  | [_, _], h => exact absurd rfl h
  | d :: e :: _ :: _, _ => cases d <;> cases e <;> rfl
theorem num_int {p : Addr} {H : Hp} {n : Nat} {v : V} {d : PyData} (h : Da p H n v d) (k : isNumD d = true) : ∃ i, d = .int i ∧ v = .int i := by
  cases h with
  | int _ i => exact ⟨i, rfl, rfl⟩
  | non => cases k
  | bl => cases k
  | str => cases k
  | lst => cases k
  | tup => cases k
/-- rows of truths as data -/
theorem dps_bools {K : PySem.W.Frag} {H : Hp} : ∀ bs : List Bool, DpAll K H (bs.map V.bl) (bs.map PyData.bool)
  | [] => .nil
  | b :: r => .cons (.bl b) (dps_bools r)
theorem bools_shaped (bs : List Bool) : SeqAt.shaped (.list (bs.map PyData.bool)) = true := by
  have h : PyData.canLayAll0 (bs.map PyData.bool) = true ∧ PyData.depthAll (bs.map PyData.bool) = 0 := by
    induction bs with
    | nil => exact ⟨rfl, rfl⟩
    | cons b r ih =>
      refine ⟨?_, ?_⟩
      · show (PyData.canLay0 (.bool b) && PyData.canLayAll0 (r.map PyData.bool)) = true
        rw [ih.1] <;> rfl
      · show max (PyData.depth (.bool b)) (PyData.depthAll (r.map PyData.bool)) = 0
        rw [ih.2] <;> rfl
  show (PyData.canLayAll0 (bs.map PyData.bool) && decide (PyData.depthAll (bs.map PyData.bool) + 1 ≤ 64)) = true
  rw [h.1, h.2] <;> rfl
theorem take_one {α : Type} {l : List α} {i : Nat} {x : α} (h : l[i]? = some x) : l.take (i + 1) = l.take i ++ [x] := by
  rw [List.take_add_one, h] <;> rfl
end KR
/-! ### fractions as numbers of the field -/
namespace KR
open PySem PySem.Spec PyProof.Rows L2
theorem Same.tup {K : PySem.W.Frag} {H H' : Hp} {a : Addr} {xs : List V} (e : Same H H') (h : SqT K H a xs) : SqT K H' a xs :=
  h.elim (fun h => .inl (h.elim (fun h => .inl (e _ _ h)) fun ⟨o, h⟩ => .inr ⟨o, e _ _ h⟩)) fun h => .inr h
theorem sqT_ty {K : PySem.W.Frag} {H : Hp} {a : Addr} {xs : List V} (h : SqT K H a xs) : TyX K H (.ref a) (.type "tuple") := by
  rcases h with (h | ⟨o, h⟩) | ⟨o, its, n, h1, h2, _⟩
  · exact .base (.tup h)
  · exact .fTuple h
  · exact .kTuple h1 h2
theorem sqT_frL {K : PySem.W.Frag} {H H' : Hp} {a p : Addr} {xs ys : List V} (h : SqT K H a xs) (hp : H p = some (.lst ys)) (f : Fr p H H') : SqT K H' a xs := by
  rcases h with (h | ⟨o, h⟩) | h
  · exact .inl (.inl (f _ _ (ne_of h hp (by intro z; cases z)) h))
  · exact .inl (.inr ⟨o, f _ _ (ne_of h hp (by intro z; cases z)) h⟩)
  · exact .inr h
theorem sqT_fr {K : PySem.W.Frag} {H H' : Hp} {a p : Addr} {n : Nat} {xs : List V} (h : SqT K H a xs) (B : BoxAt H p n) (f : Fr p H H') : SqT K H' a xs := by
  obtain ⟨i, j, k, hp, _⟩ := B
  exact sqT_frL h hp f
theorem fr_upd {p : Addr} {H : Hp} {o : HO} : Fr p H (upd H p o) := Fr.put Fr.refl
theorem BoxAt.upd {H : Hp} {p D : Addr} {n : Nat} {o : HO} (h : BoxAt H p n) (ne : D ≠ p) : BoxAt (L2.upd H D o) p n := by
  obtain ⟨a, b, c, h1, h2⟩ := h
  exact ⟨a, b, c, by rw [upd_ne ne.symm]; exact h1, h2⟩
def rq (t b : Int) : Rat := (t : Rat) / (b : Rat)
theorem rat_nd (q : Rat) : (q.num : Rat) / ((q.den : Int) : Rat) = q := by rw [← Rat.divInt_eq_div, Rat.num_divInt_den]
theorem den_ne (q : Rat) : ((q.den : Int) : Rat) ≠ 0 := by
  intro h
  have k := q.den_pos
  have h2 : ((q.den : Int) : Rat) = ((0 : Int) : Rat) := h
  have e := Rat.intCast_inj.mp h2
  omega
theorem den_ne' (q : Rat) : (q.den : Int) ≠ 0 := by
  have k := q.den_pos
  omega
theorem int_ne {b : Int} (h : b ≠ 0) : (b : Rat) ≠ 0 := fun z => h (Rat.intCast_inj.mp (z.trans (by rfl : (0 : Rat) = ((0 : Int) : Rat))))
theorem rat_low (q : Rat) : IsLow q.num q.den := ⟨by have k := q.den_pos; omega, by rw [Int.natAbs_natCast]; exact q.reduced⟩
theorem rq_cross {t b : Int} (hb : b ≠ 0) : t * ((rq t b).den : Int) = (rq t b).num * b := by
  have e := rat_nd (rq t b)
  have h1 := den_ne (rq t b)
  have h2 := int_ne hb
  refine Rat.intCast_inj.mp ?_
  rw [Rat.intCast_mul, Rat.intCast_mul]
  generalize ((rq t b).den : Int) = d at *
  generalize (rq t b).num = n at *
  unfold rq at e
  grind
theorem rq_low {t b : Int} (hb : b ≠ 0) : low t b = ((rq t b).num, ((rq t b).den : Int)) := low_eq hb (rat_low _) (rq_cross hb)
theorem cast_pos {b : Int} (h : 0 < b) : (0 : Rat) < (b : Rat) := (Rat.intCast_lt_intCast (a := 0)).mpr h
theorem cast_nn {b : Int} (h : 0 ≤ b) : (0 : Rat) ≤ (b : Rat) := (Rat.intCast_le_intCast (a := 0)).mpr h
theorem le_div {a b c : Rat} (h : 0 < c) (k : a * c ≤ b) : a ≤ b / c := Rat.not_lt.mp fun z => absurd ((Rat.div_lt_iff h).mp z) (Rat.not_lt.mpr k)
theorem div_le {a b c : Rat} (h : 0 < c) (k : b ≤ a * c) : b / c ≤ a := Rat.not_lt.mp fun z => absurd ((Rat.lt_div_iff h).mp z) (Rat.not_lt.mpr k)
theorem rq_nn {t b : Int} (ht : 0 ≤ t) (hb : 0 < b) : 0 ≤ rq t b := by
  have h1 := cast_nn ht
  have h2 := cast_pos hb
  unfold rq
  generalize (t : Rat) = x at *
  generalize (b : Rat) = y at *
  exact le_div h2 (by grind)
theorem rq_pos {t b : Int} (ht : 0 < t) (hb : 0 < b) : 0 < rq t b := by
  have h1 := cast_pos ht
  have h2 := cast_pos hb
  unfold rq
  generalize (t : Rat) = x at *
  generalize (b : Rat) = y at *
  exact (Rat.lt_div_iff h2).mpr (by grind)
theorem rq_lt_one {t b : Int} (ht : t < b) (hb : 0 < b) : rq t b < 1 := by
  have h1 := Rat.intCast_lt_intCast.mpr ht
  have h2 := cast_pos hb
  unfold rq
  generalize (t : Rat) = x at *
  generalize (b : Rat) = y at *
  exact (Rat.div_lt_iff h2).mpr (by grind)
theorem rq_le_one {t b : Int} (ht : t ≤ b) (hb : 0 < b) : rq t b ≤ 1 := by
  have h1 := Rat.intCast_le_intCast.mpr ht
  have h2 := cast_pos hb
  unfold rq
  generalize (t : Rat) = x at *
  generalize (b : Rat) = y at *
  exact div_le h2 (by grind)
theorem rq_add (p q : Rat) : rq (p.num * q.den + q.num * p.den) (p.den * q.den) = p + q := by
  have e1 := rat_nd p
  have e2 := rat_nd q
  have h1 := den_ne p
  have h2 := den_ne q
  unfold rq
  rw [Rat.intCast_add, Rat.intCast_mul, Rat.intCast_mul, Rat.intCast_mul]
  generalize ((p.den : Int) : Rat) = d at *
  generalize (p.num : Rat) = n at *
  generalize ((q.den : Int) : Rat) = d2 at *
  generalize (q.num : Rat) = n2 at *
  grind
theorem rq_sub (p q : Rat) : rq (p.num * q.den - q.num * p.den) (p.den * q.den) = p - q := by
  have e1 := rat_nd p
  have e2 := rat_nd q
  have h1 := den_ne p
  have h2 := den_ne q
  unfold rq
  rw [Rat.intCast_sub, Rat.intCast_mul, Rat.intCast_mul, Rat.intCast_mul]
  generalize ((p.den : Int) : Rat) = d at *
  generalize (p.num : Rat) = n at *
  generalize ((q.den : Int) : Rat) = d2 at *
  generalize (q.num : Rat) = n2 at *
  grind
theorem rq_mul (p q : Rat) : rq (p.num * q.num) (p.den * q.den) = p * q := by
  have e1 := rat_nd p
  have e2 := rat_nd q
  have h1 := den_ne p
  have h2 := den_ne q
  unfold rq
  rw [Rat.intCast_mul, Rat.intCast_mul]
  generalize ((p.den : Int) : Rat) = d at *
  generalize (p.num : Rat) = n at *
  generalize ((q.den : Int) : Rat) = d2 at *
  generalize (q.num : Rat) = n2 at *
  grind
theorem rq_div (p q : Rat) : rq (p.num * q.den) (p.den * q.num) = p / q := by
  have e1 := rat_nd p
  have e2 := rat_nd q
  have h1 := den_ne p
  have h2 := den_ne q
  unfold rq
  rw [Rat.intCast_mul, Rat.intCast_mul]
  generalize ((p.den : Int) : Rat) = d at *
  generalize (p.num : Rat) = n at *
  generalize ((q.den : Int) : Rat) = d2 at *
  generalize (q.num : Rat) = n2 at *
  grind
theorem rq_self (q : Rat) : rq q.num q.den = q := rat_nd q
theorem num_ne {q : Rat} (h : q ≠ 0) : q.num ≠ 0 := fun z => h (by
  have e := rat_nd q
  rw [z] at e
  rw [← e]
  grind)
theorem num_zero {q : Rat} : q.num = 0 ↔ q = 0 := ⟨fun z => Classical.byContradiction fun y => num_ne y z, fun z => by rw [z] <;> rfl⟩
theorem num_pos {q : Rat} : 0 < q.num ↔ 0 < q := by
  have k := Rat.lt_iff 0 q
  simp at k
  exact k.symm
theorem num_nn {q : Rat} : 0 ≤ q.num ↔ 0 ≤ q := Rat.num_nonneg
theorem lt_cross (p q : Rat) : (p.num * q.den < q.num * p.den) ↔ p < q := (Rat.lt_iff p q).symm
/-- top and bottom fit so many bits -/
def Sz (n : Nat) (q : Rat) : Prop := q.num.natAbs < 2 ^ n ∧ (q.den : Int).natAbs < 2 ^ n
theorem Sz.up {n m : Nat} {q : Rat} (h : Sz n q) (le : n ≤ m) : Sz m q := ⟨lt_up h.1 le, lt_up h.2 le⟩
theorem sz_rq {t b : Int} {n : Nat} (hb : b ≠ 0) (h1 : t.natAbs < 2 ^ n) (h2 : b.natAbs < 2 ^ n) : Sz n (rq t b) := by
  have k := low_lt h1 h2
  rw [rq_low hb] at k
  exact k
theorem Sz.int {z : Int} {n : Nat} (h : z.natAbs < 2 ^ n) (h0 : 0 < n) : Sz n (z : Rat) := ⟨h, Nat.lt_of_lt_of_le (by decide : (1 : Nat) < 2 ^ 1) (Nat.pow_le_pow_right (by decide) h0)⟩
theorem Sz.neg {n : Nat} {q : Rat} (h : Sz n q) : Sz n (-q) := ⟨by
  show (-q.num).natAbs < 2 ^ n
  rw [Int.natAbs_neg]
  exact h.1, h.2⟩
/-- a fraction that is read -/
def FrQ (K : PySem.W.Frag) (H : Hp) (x : Addr) (q : Rat) : Prop := SqT K H x [.int q.num, .int (q.den : Int)]
theorem FrQ.same {K : PySem.W.Frag} {H H' : Hp} {x : Addr} {q : Rat} (h : FrQ K H x q) (s : Same H H') : FrQ K H' x q := Same.tup s h
theorem FrQ.fr {K : PySem.W.Frag} {H H' : Hp} {x p : Addr} {n : Nat} {q : Rat} (h : FrQ K H x q) (B : BoxAt H p n) (f : Fr p H H') : FrQ K H' x q := sqT_fr h B f
theorem FrQ.of {K : PySem.W.Frag} {H : Hp} {x : Addr} {q : Rat} (h : H x = some (.tup [.int q.num, .int (q.den : Int)])) : FrQ K H x q := SqT.of h
theorem FrQ.int {K : PySem.W.Frag} {H : Hp} {x : Addr} {z : Int} (h : H x = some (.tup [.int z, .int 1])) : FrQ K H x (z : Rat) := SqT.of h
/-- a juice that is read -/
def JuQ (K : PySem.W.Frag) (H : Hp) (x : Addr) (s w : Rat) : Prop := ∃ a b, SqT K H x [.ref a, .ref b] ∧ FrQ K H a s ∧ FrQ K H b w
theorem JuQ.same {K : PySem.W.Frag} {H H' : Hp} {x : Addr} {s w : Rat} (h : JuQ K H x s w) (e : Same H H') : JuQ K H' x s w := by
  obtain ⟨a, b, h1, h2, h3⟩ := h
  exact ⟨a, b, Same.tup e h1, h2.same e, h3.same e⟩
theorem JuQ.fr {K : PySem.W.Frag} {H H' : Hp} {x p : Addr} {n : Nat} {s w : Rat} (h : JuQ K H x s w) (B : BoxAt H p n) (f : Fr p H H') : JuQ K H' x s w := by
  obtain ⟨a, b, h1, h2, h3⟩ := h
  exact ⟨a, b, sqT_fr h1 B f, h2.fr B f, h3.fr B f⟩
theorem JuQ.new {K : PySem.W.Frag} {H : Hp} {x a b : Addr} {s w : Rat} (h : H x = some (.tup [.ref a, .ref b])) (ha : FrQ K H a s) (hb : FrQ K H b w) : JuQ K H x s w := ⟨a, b, SqT.of h, ha, hb⟩
/-- a new pair of two numbers' lowest terms -/
def sp_lowQ (K : PySem.W.Frag) : Sp := fun vs H Q _ => ∃ (t b : Int) (n : Nat), vs = [.int t, .int b] ∧ b ≠ 0 ∧ t.natAbs < 2 ^ n ∧ b.natAbs < 2 ^ n ∧ n ≤ 2000 ∧ ∀ p H', Same H H' → H p = none → FrQ K H' p (rq t b) → Sz n (rq t b) → Q (.ref p) H'
theorem lowQ {K : PySem.W.Frag} {vs : List V} {H : Hp} {Q : VK} {E : XK} (h : sp_lowQ K vs H Q E) : sp_low vs H Q E := by
  obtain ⟨t, b, n, e, hb, h1, h2, hn, q⟩ := h
  refine ⟨t, b, e, hb, lt_up h1 hn, lt_up h2 hn, fun p H' s hp h' => q p H' s hp ?_ (sz_rq hb h1 h2)⟩
  rw [rq_low hb] at h'
  exact .of h'
/-- two fractions in, one out -/
def sp_q2 (K : PySem.W.Frag) (f : Rat → Rat → Rat) (ok : Rat → Rat → Prop) : Sp := fun vs H Q _ => ∃ (x y : Addr) (p q : Rat) (m n : Nat), vs = [.ref x, .ref y] ∧ FrQ K H x p ∧ FrQ K H y q ∧ Sz m p ∧ Sz n q ∧ m + n ≤ 1900 ∧ ok p q ∧
  ∀ z H', Same H H' → H z = none → FrQ K H' z (f p q) → Sz (m + n + 1) (f p q) → Q (.ref z) H'
def sp_less (K : PySem.W.Frag) : Sp := fun vs H Q _ => ∃ (x y : Addr) (p q : Rat), vs = [.ref x, .ref y] ∧ FrQ K H x p ∧ FrQ K H y q ∧ Sz 1900 p ∧ Sz 1900 q ∧ Q (.bl (decide (p < q))) H
theorem mulZ {i j : Int} {a b : Nat} (ha : i.natAbs < 2 ^ a) (hb : j.natAbs < 2 ^ b) (h : a + b ≤ 100000) : IntMulOk i j :=
  mulW (lt_up ha (by omega : a ≤ a + 1)) (lt_up hb (by omega : b ≤ b + 1)) (by omega) (by omega) (by omega)
/-! data of the law's own making, tuples of the written part among them -/
inductive Dk (K : PySem.W.Frag) (H : Hp) : Nat → V → PyData → Prop
  | non (n : Nat) : Dk K H (n + 1) .non .none
  | bl (n : Nat) (b : Bool) : Dk K H (n + 1) (.bl b) (.bool b)
  | int (n : Nat) (i : Int) : Dk K H (n + 1) (.int i) (.int i)
  | str (n : Nat) (x : Str) (ok : PyData.canLay0 (.str x) = true) : Dk K H (n + 1) (.str x) (.str x)
  | lst {n : Nat} {a : Addr} {xs : List V} {ds : List PyData} : H a = some (.lst xs) → xs.length = ds.length → xs.length ≤ 100000 → (∀ (i : Nat) (x : V) (d : PyData), xs[i]? = some x → ds[i]? = some d → Dk K H n x d) → Dk K H (n + 1) (.ref a) (.list ds)
  | tup {n : Nat} {a : Addr} {xs : List V} {ds : List PyData} : SqT K H a xs → xs.length = ds.length → xs.length ≤ 100000 → (∀ (i : Nat) (x : V) (d : PyData), xs[i]? = some x → ds[i]? = some d → Dk K H n x d) → Dk K H (n + 1) (.ref a) (.tuple ds)
theorem Dk.same {K : PySem.W.Frag} {H H' : Hp} (s : Same H H') : ∀ {n : Nat} {v : V} {d : PyData}, Dk K H n v d → Dk K H' n v d := by
  intro n v d h
  induction h with
  | non n => exact .non n
  | bl n b => exact .bl n b
  | int n i => exact .int n i
  | str n x ok => exact .str n x ok
  | lst h1 h2 h3 _ ih => exact .lst (s _ _ h1) h2 h3 ih
  | tup h1 h2 h3 _ ih => exact .tup (Same.tup s h1) h2 h3 ih
theorem Dk.up {K : PySem.W.Frag} {H : Hp} {n m : Nat} {v : V} {d : PyData} (h : Dk K H n v d) : n ≤ m → Dk K H m v d := by
  intro le
  induction h generalizing m with
  | non n => obtain ⟨k, rfl⟩ : ∃ k, m = k + 1 := ⟨m - 1, by omega⟩; exact .non k
  | bl n b => obtain ⟨k, rfl⟩ : ∃ k, m = k + 1 := ⟨m - 1, by omega⟩; exact .bl k b
  | int n i => obtain ⟨k, rfl⟩ : ∃ k, m = k + 1 := ⟨m - 1, by omega⟩; exact .int k i
  | str n x ok => obtain ⟨k, rfl⟩ : ∃ k, m = k + 1 := ⟨m - 1, by omega⟩; exact .str k x ok
  | lst h1 h2 h3 _ ih => obtain ⟨k, rfl⟩ : ∃ k, m = k + 1 := ⟨m - 1, by omega⟩; exact .lst h1 h2 h3 fun i x d a b => ih i x d a b (by omega)
  | tup h1 h2 h3 _ ih => obtain ⟨k, rfl⟩ : ∃ k, m = k + 1 := ⟨m - 1, by omega⟩; exact .tup h1 h2 h3 fun i x d a b => ih i x d a b (by omega)
/-- rows of data beside their values -/
def DkAll (K : PySem.W.Frag) (H : Hp) (n : Nat) (xs : List V) (ds : List PyData) : Prop := xs.length = ds.length ∧ ∀ (i : Nat) (x : V) (d : PyData), xs[i]? = some x → ds[i]? = some d → Dk K H n x d
theorem DkAll.nil {K : PySem.W.Frag} {H : Hp} {n : Nat} : DkAll K H n [] [] := ⟨rfl, fun i x d h => by simp at h⟩
theorem DkAll.cons {K : PySem.W.Frag} {H : Hp} {n : Nat} {x : V} {d : PyData} {xs : List V} {ds : List PyData} (h : Dk K H n x d) (t : DkAll K H n xs ds) : DkAll K H n (x :: xs) (d :: ds) :=
  ⟨by rw [List.length_cons, List.length_cons, t.1], fun i u v hu hv => match i, hu, hv with
    | 0, hu, hv => by cases hu; cases hv; exact h
    | i + 1, hu, hv => t.2 i u v hu hv⟩
theorem DkAll.tup {K : PySem.W.Frag} {H : Hp} {n : Nat} {xs : List V} {ds : List PyData} {a : Addr} (t : DkAll K H n xs ds) (h : SqT K H a xs) (z : Nat.ble xs.length 100000 = true := by rfl) : Dk K H (n + 1) (.ref a) (.tuple ds) := .tup h t.1 (Nat.le_of_ble_eq_true z) t.2
theorem DkAll.lst {K : PySem.W.Frag} {H : Hp} {n : Nat} {xs : List V} {ds : List PyData} {a : Addr} (t : DkAll K H n xs ds) (h : H a = some (.lst xs)) (z : Nat.ble xs.length 100000 = true := by rfl) : Dk K H (n + 1) (.ref a) (.list ds) := .lst h t.1 (Nat.le_of_ble_eq_true z) t.2
/-- the data of a fraction, of a juice -/
def dq (q : Rat) : PyData := .tuple [.int q.num, .int (q.den : Int)]
def dj (s w : Rat) : PyData := .tuple [dq s, dq w]
theorem FrQ.dk {K : PySem.W.Frag} {H : Hp} {x : Addr} {q : Rat} (h : FrQ K H x q) (n : Nat := 0) : Dk K H (n + 2) (.ref x) (dq q) := DkAll.tup (.cons (.int _ _) (.cons (.int _ _) .nil)) h
theorem JuQ.dk {K : PySem.W.Frag} {H : Hp} {x : Addr} {s w : Rat} (h : JuQ K H x s w) (n : Nat := 0) : Dk K H (n + 3) (.ref x) (dj s w) := by
  obtain ⟨a, b, h1, h2, h3⟩ := h
  exact DkAll.tup (.cons (h2.dk n) (.cons (h3.dk n) .nil)) h1
/-- forty figures -/
theorem b133 {n : Nat} (h : n < 10 ^ 40) : n < 2 ^ 133 := Nat.lt_trans h (by decide)
/-- a fraction or None -/
def OQ (K : PySem.W.Frag) (H : Hp) (v : V) : Option Rat → Prop
  | none => v = .non
  | some q => ∃ x, v = .ref x ∧ FrQ K H x q
theorem OQ.same {K : PySem.W.Frag} {H H' : Hp} {v : V} {o : Option Rat} (h : OQ K H v o) (e : Same H H') : OQ K H' v o := by
  cases o with
  | none => exact h
  | some q =>
    obtain ⟨x, e1, h1⟩ := h
    exact ⟨x, e1, h1.same e⟩
def oq : Option Rat → PyData
  | none => .none
  | some q => dq q
theorem OQ.dk {K : PySem.W.Frag} {H : Hp} {v : V} {o : Option Rat} (h : OQ K H v o) (n : Nat := 0) : Dk K H (n + 2) v (oq o) := by
  cases o with
  | none => rw [show v = .non from h]; exact .non _
  | some q =>
    obtain ⟨x, e1, h1⟩ := h
    rw [e1]
    exact h1.dk n
/-- the strength of a juice -/
def stren (s w : Rat) : Option Rat := if s + w = 0 then none else some (s / (s + w))
theorem stren_part {s w t : Rat} (h : t ≠ 0) : stren (s * t) (w * t) = stren s w := by
  unfold stren
  by_cases c : s + w = 0
  · rw [if_pos c, if_pos (by grind)]
  · rw [if_neg c, if_neg (by grind)]
    congr 1
    grind
theorem stren_more {s w t : Rat} (h : 0 ≤ t) : stren (s + s * t) (w + w * t) = stren s w := by
  have e1 : s + s * t = s * (1 + t) := by grind
  have e2 : w + w * t = w * (1 + t) := by grind
  rw [e1, e2]
  exact stren_part (by grind)
theorem strength_between {s w x y : Rat} (hs : 0 ≤ s) (hw : 0 ≤ w) (hx : 0 ≤ x) (hy : 0 ≤ y) (h1 : s + w ≠ 0) (h2 : x + y ≠ 0) (le : s / (s + w) ≤ x / (x + y)) :
    s / (s + w) ≤ (s + x) / (s + x + (w + y)) ∧ (s + x) / (s + x + (w + y)) ≤ x / (x + y) := by
  have p1 : 0 < s + w := by grind
  have p2 : 0 < x + y := by grind
  have p3 : 0 < s + x + (w + y) := by grind
  generalize ea : s / (s + w) = a at *
  generalize eb : x / (x + y) = b at *
  have sa : s = a * (s + w) := by grind
  have xb : x = b * (x + y) := by grind
  have d : 0 ≤ b - a := by grind
  constructor
  · refine le_div p3 ?_
    have k := Rat.mul_nonneg d (Rat.le_of_lt p2)
    grind
  · refine div_le p3 ?_
    have k := Rat.mul_nonneg d (Rat.le_of_lt p1)
    grind
theorem is_zero {q : Rat} : decide (q.num = 0 ∧ (q.den : Int) = 1) = decide (q = 0) := by
  rw [decide_eq_decide]
  constructor
  · rintro ⟨h, _⟩
    exact num_zero.mp h
  · rintro rfl
    exact ⟨rfl, rfl⟩
/-- boiling -/
def wat (s u : Rat) : Rat := s / u - s
def boil (s w : Rat) (f : Int) (u h : Rat) : Rat := if wat s u < w then (if w - f * h < wat s u then wat s u else w - f * h) else w
theorem rq_wat (s u : Rat) (hu : u ≠ 0) : rq (s.num * ((u.den : Int) - u.num)) (s.den * u.num) = wat s u := by
  have e1 := rat_nd s
  have e2 := rat_nd u
  have h1 := den_ne s
  have h2 := den_ne u
  have h3 := int_ne (num_ne hu)
  unfold rq wat
  rw [Rat.intCast_mul, Rat.intCast_mul, Rat.intCast_sub]
  generalize ((s.den : Int) : Rat) = d at *
  generalize (s.num : Rat) = n at *
  generalize ((u.den : Int) : Rat) = d2 at *
  generalize (u.num : Rat) = n2 at *
  rw [← e1, ← e2]
  grind
theorem Sz.add {m n : Nat} {p q : Rat} (h : Sz m p) (k : Sz n q) : Sz (m + n + 1) (p + q) := by
  rw [← rq_add]
  exact sz_rq (Int.mul_ne_zero (den_ne' p) (den_ne' q)) (lt_up (add_lt (wide_lt h.1 k.2) (lt_up (wide_lt k.1 h.2) (by omega : n + m ≤ m + n))) (by omega)) (lt_up (wide_lt h.2 k.2) (by omega))
theorem Sz.sub {m n : Nat} {p q : Rat} (h : Sz m p) (k : Sz n q) : Sz (m + n + 1) (p - q) := by
  rw [← rq_sub]
  exact sz_rq (Int.mul_ne_zero (den_ne' p) (den_ne' q)) (lt_up (sub_lt (wide_lt h.1 k.2) (lt_up (wide_lt k.1 h.2) (by omega : n + m ≤ m + n))) (by omega)) (lt_up (wide_lt h.2 k.2) (by omega))
theorem Sz.mul {m n : Nat} {p q : Rat} (h : Sz m p) (k : Sz n q) : Sz (m + n) (p * q) := by
  rw [← rq_mul]
  exact sz_rq (Int.mul_ne_zero (den_ne' p) (den_ne' q)) (wide_lt h.1 k.1) (wide_lt h.2 k.2)
theorem Sz.wat {m n : Nat} {s u : Rat} (h : Sz m s) (k : Sz n u) (hu : u ≠ 0) : Sz (m + n + 1) (wat s u) := by
  rw [← rq_wat s u hu]
  exact sz_rq (Int.mul_ne_zero (den_ne' s) (num_ne hu)) (lt_up (wide_lt h.1 (sub_lt k.2 k.1)) (by omega)) (lt_up (wide_lt h.2 k.1) (by omega))
theorem Sz.boil {a b c n N : Nat} {s w u h : Rat} {f : Int} (zs : Sz a s) (zu : Sz n u) (hu : u ≠ 0) (zw : Sz b w) (zh : Sz c h) (hf : f.natAbs < 2 ^ 14) (h1 : a + n + 1 ≤ N) (h2 : b + (14 + c) + 1 ≤ N) : Sz N (KR.boil s w f u h) := by
  unfold KR.boil
  split
  · split
    · exact (Sz.wat zs zu hu).up h1
    · exact (Sz.sub zw (Sz.mul (Sz.int hf (by decide)) zh)).up h2
  · exact zw.up (by omega)
theorem boil_zero {s w u : Rat} {f : Int} : boil s w f u 0 = w := by
  unfold boil
  rw [Rat.mul_zero]
  split <;> grind
theorem boil_boil {s w u h k : Rat} {f : Int} (hf : 0 ≤ f) (hh : 0 ≤ h) (hk : 0 ≤ k) : boil s (boil s w f u h) f u k = boil s w f u (h + k) := by
  have f0 := cast_nn hf
  have a0 := Rat.mul_nonneg f0 hh
  have b0 := Rat.mul_nonneg f0 hk
  unfold boil
  rw [Rat.mul_add]
  generalize (f : Rat) * h = a at *
  generalize (f : Rat) * k = b at *
  generalize wat s u = L
  grind
theorem boil_fire {s w u h : Rat} {f g : Int} (hf : f ≤ g) (hh : 0 ≤ h) : boil s w g u h ≤ boil s w f u h := by
  have k := Rat.mul_nonneg (cast_nn (show 0 ≤ g - f by omega)) hh
  rw [Rat.intCast_sub] at k
  unfold boil
  generalize wat s u = L
  have e : ((g : Rat) - (f : Rat)) * h = (g : Rat) * h - (f : Rat) * h := by grind
  rw [e] at k
  generalize (f : Rat) * h = a at *
  generalize (g : Rat) * h = b at *
  grind
theorem boil_two {s w u h : Rat} {f : Int} : boil (s + s) (w + w) (2 * f) u h = boil s w f u h + boil s w f u h := by
  unfold boil
  have e : wat (s + s) u = wat s u + wat s u := by
    unfold wat
    grind
  rw [e, Rat.intCast_mul]
  have e2 : ((2 : Int) : Rat) * (f : Rat) * h = (f : Rat) * h + (f : Rat) * h := by
    have e3 : ((2 : Int) : Rat) = 2 := rfl
    rw [e3]
    grind
  rw [e2]
  generalize (f : Rat) * h = a at *
  generalize wat s u = L at *
  grind
theorem Sz.div {m n : Nat} {p q : Rat} (h : Sz m p) (k : Sz n q) (hq : q ≠ 0) : Sz (m + n) (p / q) := by
  rw [← rq_div]
  exact sz_rq (Int.mul_ne_zero (den_ne' p) (num_ne hq)) (wide_lt h.1 k.2) (wide_lt h.2 k.1)
theorem rq_divi (r : Rat) (f : Int) : rq r.num (r.den * f) = r / (f : Rat) := by
  have e := rq_div r (f : Rat)
  rw [← e]
  show rq r.num (r.den * f) = rq (r.num * 1) (r.den * f)
  rw [Int.mul_one]
theorem FrQ.dp {K : PySem.W.Frag} {H : Hp} {x : Addr} {q : Rat} (h : FrQ K H x q) : Dp K H (.ref x) (dq q) := .tup h (.cons (.int _) (.cons (.int _) .nil))
theorem JuQ.dp {K : PySem.W.Frag} {H : Hp} {x : Addr} {s w : Rat} (h : JuQ K H x s w) : Dp K H (.ref x) (dj s w) := by
  obtain ⟨a, b, h1, h2, h3⟩ := h
  exact .tup h1 (.cons h2.dp (.cons h3.dp .nil))
theorem eqv_dq (a b : Rat) : PyData.eqv (dq a) (dq b) = decide (a = b) := by
  refine eqv_pair.trans ?_
  rw [decide_eq_decide]
  constructor
  · rintro ⟨h1, h2⟩
    exact Rat.ext h1 (by omega)
  · rintro rfl
    exact ⟨rfl, rfl⟩
theorem OQ.dp {K : PySem.W.Frag} {H : Hp} {v : V} {o : Option Rat} (h : OQ K H v o) : Dp K H v (oq o) := by
  cases o with
  | none => rw [show v = .non from h]; exact .non
  | some q =>
    obtain ⟨x, e1, h1⟩ := h
    rw [e1]
    exact h1.dp
theorem oq_fit (o : Option Rat) : PyData.canLay0 (oq o) = true ∧ PyData.depth (oq o) ≤ 60 := by
  cases o with
  | none => exact ⟨rfl, by decide⟩
  | some q => exact ⟨rfl, by show 1 ≤ 60; decide⟩
/-- when a juice is ready -/
def ready (s w : Rat) (f : Int) (u : Rat) : Option Rat := if s = 0 then none else if wat s u < w then (if f = 0 then none else some ((w - wat s u) / (f : Rat))) else some 0
theorem wat_nn {s u : Rat} (hs : 0 ≤ s) (u0 : 0 < u) (u1 : u < 1) : 0 ≤ wat s u := by
  have k := Rat.mul_nonneg hs (show 0 ≤ 1 - u by grind)
  have h : s ≤ s / u := le_div u0 (by grind)
  unfold wat
  grind
theorem on_way {s w u : Rat} {f : Int} (hs : 0 < s) (u0 : 0 < u) (u1 : u < 1) (hf : 0 < f) (lt : wat s u < w) {t : Rat} (et : t = (w - wat s u) / (f : Rat)) :
    boil s w f u t = wat s u ∧ stren s (wat s u) = some u ∧ 0 < t ∧ ∀ h : Rat, 0 < h → (boil s w f u (t + h) = wat s u ∧ (h ≤ 1 → ∃ q, stren s (boil s w f u (t * h)) = some q ∧ (q = u ↔ h = 1) ∧ ready s (boil s w f u (t * h)) f u = some (t - t * h))) := by
  have f0 := cast_pos hf
  have fne : (f : Rat) ≠ 0 := by grind
  have ft : (f : Rat) * t = w - wat s u := by rw [et]; grind
  have wn := wat_nn (Rat.le_of_lt hs) u0 u1
  have tp : 0 < t := by
    rw [et]
    exact (Rat.lt_div_iff f0).mpr (by grind)
  refine ⟨?_, ?_, tp, fun h hh => ⟨?_, fun h1 => ?_⟩⟩
  · unfold boil
    rw [ft]
    grind
  · have e : s + wat s u = s / u := by
      unfold wat
      grind
    have ne : s / u ≠ 0 := by grind
    unfold stren
    rw [e, if_neg ne]
    congr 1
    grind
  · have k := Rat.mul_pos f0 hh
    unfold boil
    rw [Rat.mul_add, ft]
    grind
  · have d : 0 < w - wat s u := by grind
    have k := Rat.mul_nonneg (Rat.le_of_lt d) (show 0 ≤ 1 - h by grind)
    have e : (f : Rat) * (t * h) = (w - wat s u) * h := by rw [← ft]; grind
    have eb : boil s w f u (t * h) = w - (w - wat s u) * h := by
      unfold boil
      rw [e]
      grind
    have xge : wat s u ≤ w - (w - wat s u) * h := by grind
    have sx : s + (w - (w - wat s u) * h) ≠ 0 := by grind
    rw [eb]
    refine ⟨s / (s + (w - (w - wat s u) * h)), if_neg sx, ⟨fun q => ?_, fun q => ?_⟩, ?_⟩
    · have q2 : s = u * (s + (w - (w - wat s u) * h)) := by grind
      have q3 : wat s u = w - (w - wat s u) * h := by
        unfold wat at *
        grind
      have q4 : (w - wat s u) * (1 - h) = 0 := by grind
      have q5 : 1 - h = 0 := by
        rcases Rat.mul_eq_zero.mp q4 with z | z
        · grind
        · exact z
      grind
    · rw [q]
      have e2 : s + (w - (w - wat s u) * 1) = s / u := by
        unfold wat
        grind
      rw [e2]
      grind
    · unfold ready
      rw [if_neg (by grind)]
      by_cases c : wat s u < w - (w - wat s u) * h
      · rw [if_pos c, if_neg (by omega)]
        congr 1
        rw [et]
        grind
      · rw [if_neg c]
        have q4 : (w - wat s u) * (1 - h) = 0 := by grind
        have q5 : 1 - h = 0 := by
          rcases Rat.mul_eq_zero.mp q4 with z | z
          · grind
          · exact z
        have q6 : h = 1 := by grind
        rw [q6]
        congr 1
        grind
/-- a thing is not among those of a tuple -/
def rNoTup (K : PySem.W.Frag) : R2 := fun x y H Q => ∃ d ds, Dp K H x d ∧ Dp K H y (.tuple ds) ∧ PyData.canLay0 d = true ∧ PyData.canLayAll0 ds = true ∧ PyData.depth d ≤ 60 ∧ Q (.bl (!ds.any fun z => PyData.eqv z d)) H
theorem notTup {X : Cx} {K : PySem.W.Frag} (hK : X.K = K) (room : X.A.units + 64 < cLine) : OpR X (compareOp .NotIn) (rNoTup K) := by
  subst hK
  intro pn s0 σ H x y v1 v2 Q I a1 a2 h
  obtain ⟨d, ds, h1, h2, h3, h4, h5, q⟩ := h
  obtain ⟨as1, r1⟩ := Dp.reads I d x v1 h1 a1
  obtain ⟨as2, r2⟩ := Dp.reads I (.tuple ds) y v2 h2 a2
  exact SeqAt.notIn_tuple_reads r2 r1 h4 h3 (by omega) ⟨.bl _, H, I, rfl, q⟩
/-- a juice in, a juice and a share in, two juices in -/
def sp_j2 (K : PySem.W.Frag) : Sp := fun vs H Q _ => ∃ (x y : Addr) (s w s' w' : Rat) (m n : Nat), vs = [.ref x, .ref y] ∧ JuQ K H x s w ∧ JuQ K H y s' w' ∧ Sz m s ∧ Sz m w ∧ Sz n s' ∧ Sz n w' ∧ m + n ≤ 1900 ∧
  ∀ z H', Same H H' → JuQ K H' z (s + s') (w + w') → Sz (m + n + 1) (s + s') → Sz (m + n + 1) (w + w') → Q (.ref z) H'
def sp_jt (K : PySem.W.Frag) (f : Rat → Rat) : Sp := fun vs H Q _ => ∃ (x y : Addr) (s w t : Rat) (m n : Nat), vs = [.ref x, .ref y] ∧ JuQ K H x s w ∧ FrQ K H y t ∧ Sz m s ∧ Sz m w ∧ Sz n t ∧ m + n ≤ 900 ∧ n ≤ 400 ∧
  ∀ z H', Same H H' → JuQ K H' z (s * f t) (w * f t) → Sz (m + n + 10) (s * f t) → Sz (m + n + 10) (w * f t) → Q (.ref z) H'
def sp_vol (K : PySem.W.Frag) : Sp := fun vs H Q _ => ∃ (x : Addr) (s w : Rat) (m : Nat), vs = [.ref x] ∧ JuQ K H x s w ∧ Sz m s ∧ Sz m w ∧ m ≤ 900 ∧ ∀ z H', Same H H' → FrQ K H' z (s + w) → Sz (m + m + 1) (s + w) → Q (.ref z) H'
def sp_str (K : PySem.W.Frag) : Sp := fun vs H Q _ => ∃ (x : Addr) (s w : Rat) (m : Nat), vs = [.ref x] ∧ JuQ K H x s w ∧ Sz m s ∧ Sz m w ∧ m ≤ 600 ∧ ∀ v H', Same H H' → OQ K H' v (stren s w) → (∀ q, stren s w = some q → Sz (3 * m + 2) q) → Q v H'
end KR
namespace KR
open PySem PySem.Spec PyProof.Rows L2
def top (i : Nat) : Stmt := PySem.Challenge.pw_kettlerow_k09_ready_in_so_many_hours.main.body.getD i (.Pass ⟨0, 0, 0, 0⟩)
abbrev s_p_is_number : Stmt := top 2
theorem sc_p_is_number : FnScope ["thing"] ["thing"] (defScope s_p_is_number) := ⟨rfl, rfl, rfl, by decide +kernel, rfl, by decide +kernel, by decide +kernel⟩
abbrev s_p_is_frac : Stmt := top 5
theorem sc_p_is_frac : FnScope ["thing", "top", "bottom"] ["thing"] (defScope s_p_is_frac) := ⟨rfl, rfl, rfl, by decide +kernel, rfl, by decide +kernel, by decide +kernel⟩
abbrev s_p_frac_of : Stmt := top 6
theorem sc_p_frac_of : FnScope ["top", "bottom", "common"] ["top", "bottom"] (defScope s_p_frac_of) := ⟨rfl, rfl, rfl, by decide +kernel, rfl, by decide +kernel, by decide +kernel⟩
abbrev s_p_sum_of : Stmt := top 7
theorem sc_p_sum_of : FnScope ["one", "other"] ["one", "other"] (defScope s_p_sum_of) := ⟨rfl, rfl, rfl, by decide +kernel, rfl, by decide +kernel, by decide +kernel⟩
abbrev s_p_difference : Stmt := top 8
theorem sc_p_difference : FnScope ["one", "other"] ["one", "other"] (defScope s_p_difference) := ⟨rfl, rfl, rfl, by decide +kernel, rfl, by decide +kernel, by decide +kernel⟩
abbrev s_p_product : Stmt := top 9
theorem sc_p_product : FnScope ["one", "other"] ["one", "other"] (defScope s_p_product) := ⟨rfl, rfl, rfl, by decide +kernel, rfl, by decide +kernel, by decide +kernel⟩
abbrev s_p_quotient : Stmt := top 10
theorem sc_p_quotient : FnScope ["one", "other"] ["one", "other"] (defScope s_p_quotient) := ⟨rfl, rfl, rfl, by decide +kernel, rfl, by decide +kernel, by decide +kernel⟩
abbrev s_p_is_lesser : Stmt := top 11
theorem sc_p_is_lesser : FnScope ["one", "other"] ["one", "other"] (defScope s_p_is_lesser) := ⟨rfl, rfl, rfl, by decide +kernel, rfl, by decide +kernel, by decide +kernel⟩
abbrev s_p_water_at : Stmt := top 13
theorem sc_p_water_at : FnScope ["sugar", "mark"] ["sugar", "mark"] (defScope s_p_water_at) := ⟨rfl, rfl, rfl, by decide +kernel, rfl, by decide +kernel, by decide +kernel⟩
abbrev s_p_boiled_down : Stmt := top 14
theorem sc_p_boiled_down : FnScope ["juice", "fire", "mark", "hours", "sugar", "water", "least", "left"] ["juice", "fire", "mark", "hours"] (defScope s_p_boiled_down) := ⟨rfl, rfl, rfl, by decide +kernel, rfl, by decide +kernel, by decide +kernel⟩
abbrev s_p_ready_in : Stmt := top 15
theorem sc_p_ready_in : FnScope ["juice", "fire", "mark", "sugar", "water", "least", "above"] ["juice", "fire", "mark"] (defScope s_p_ready_in) := ⟨rfl, rfl, rfl, by decide +kernel, rfl, by decide +kernel, by decide +kernel⟩
abbrev s_p_volume_of : Stmt := top 17
theorem sc_p_volume_of : FnScope ["juice"] ["juice"] (defScope s_p_volume_of) := ⟨rfl, rfl, rfl, by decide +kernel, rfl, by decide +kernel, by decide +kernel⟩
abbrev s_p_strength_of : Stmt := top 18
theorem sc_p_strength_of : FnScope ["juice", "volume"] ["juice"] (defScope s_p_strength_of) := ⟨rfl, rfl, rfl, by decide +kernel, rfl, by decide +kernel, by decide +kernel⟩
abbrev s_l_cell_at : Stmt := top 20
theorem sc_l_cell_at : FnScope ["_law_script", "_law_k"] ["_law_script", "_law_k"] (defScope s_l_cell_at) := ⟨rfl, rfl, rfl, by decide +kernel, rfl, by decide +kernel, by decide +kernel⟩
abbrev s_l_box : Stmt := top 21
theorem sc_l_box : FnScope ["_law_script", "_law_k", "_law_cell"] ["_law_script", "_law_k"] (defScope s_l_box) := ⟨rfl, rfl, rfl, by decide +kernel, rfl, by decide +kernel, by decide +kernel⟩
abbrev s_l_take : Stmt := top 22
theorem sc_l_take : FnScope ["_law_box_here", "_law_many", "_law_found", "_law_once", "_law_twice"] ["_law_box_here", "_law_many"] (defScope s_l_take) := ⟨rfl, rfl, rfl, by decide +kernel, rfl, by decide +kernel, by decide +kernel⟩
abbrev s_l_low : Stmt := top 23
theorem sc_l_low : FnScope ["_law_top", "_law_bottom", "_law_one", "_law_other"] ["_law_top", "_law_bottom"] (defScope s_l_low) := ⟨rfl, rfl, rfl, by decide +kernel, rfl, by decide +kernel, by decide +kernel⟩
abbrev s_l_plus : Stmt := top 24
theorem sc_l_plus : FnScope ["_law_one", "_law_other"] ["_law_one", "_law_other"] (defScope s_l_plus) := ⟨rfl, rfl, rfl, by decide +kernel, rfl, by decide +kernel, by decide +kernel⟩
abbrev s_l_by : Stmt := top 25
theorem sc_l_by : FnScope ["_law_one", "_law_other"] ["_law_one", "_law_other"] (defScope s_l_by) := ⟨rfl, rfl, rfl, by decide +kernel, rfl, by decide +kernel, by decide +kernel⟩
abbrev s_l_frac : Stmt := top 26
theorem sc_l_frac : FnScope ["_law_box_here", "_law_below", "_law_way", "_law_sign", "_law_most"] ["_law_box_here", "_law_below"] (defScope s_l_frac) := ⟨rfl, rfl, rfl, by decide +kernel, rfl, by decide +kernel, by decide +kernel⟩
abbrev s_l_share : Stmt := top 27
theorem sc_l_share : FnScope ["_law_box_here", "_law_bottom"] ["_law_box_here"] (defScope s_l_share) := ⟨rfl, rfl, rfl, by decide +kernel, rfl, by decide +kernel, by decide +kernel⟩
abbrev s_l_same : Stmt := top 28
theorem sc_l_same : FnScope ["_law_found", "_law_due", "_law_one", "_law_other"] ["_law_found", "_law_due"] (defScope s_l_same) := ⟨rfl, rfl, rfl, by decide +kernel, rfl, by decide +kernel, by decide +kernel⟩
abbrev s_l_juice : Stmt := top 29
theorem sc_l_juice : FnScope ["_law_box_here", "_law_part"] ["_law_box_here"] (defScope s_l_juice) := ⟨rfl, rfl, rfl, by decide +kernel, rfl, by decide +kernel, by decide +kernel⟩
abbrev s_l_mark : Stmt := top 30
theorem sc_l_mark : FnScope ["_law_box_here", "_law_bottom"] ["_law_box_here"] (defScope s_l_mark) := ⟨rfl, rfl, rfl, by decide +kernel, rfl, by decide +kernel, by decide +kernel⟩
abbrev s_l_is_less : Stmt := top 31
theorem sc_l_is_less : FnScope ["_law_one", "_law_other"] ["_law_one", "_law_other"] (defScope s_l_is_less) := ⟨rfl, rfl, rfl, by decide +kernel, rfl, by decide +kernel, by decide +kernel⟩
abbrev s_l_is_small : Stmt := top 32
theorem sc_l_is_small : FnScope ["_law_one"] ["_law_one"] (defScope s_l_is_small) := ⟨rfl, rfl, rfl, by decide +kernel, rfl, by decide +kernel, by decide +kernel⟩
abbrev s_l_case : Stmt := top 33
theorem sc_l_case : FnScope ["_law_box_here", "_law_juice_here", "_law_way", "_law_mark_here", "_law_share_here", "_law_least", "_law_water"] ["_law_box_here"] (defScope s_l_case) := ⟨rfl, rfl, rfl, by decide +kernel, rfl, by decide +kernel, by decide +kernel⟩
abbrev s_l_on_the_way_right : Stmt := top 34
theorem sc_l_on_the_way_right : FnScope ["_law_box_here", "_law_juice_here", "_law_fire", "_law_mark_here", "_law_when", "_law_share_here", "_law_ahead", "_law_later", "_law_at", "_law_some", "_law_left"] ["_law_box_here", "_law_juice_here", "_law_fire", "_law_mark_here", "_law_when"] (defScope s_l_on_the_way_right) := ⟨rfl, rfl, rfl, by decide +kernel, rfl, by decide +kernel, by decide +kernel⟩
abbrev s_l_right : Stmt := top 35
theorem sc_l_right : FnScope ["_law_box_here", "_law_turn", "_law_juice_here", "_law_fire", "_law_mark_here", "_law_least", "_law_found", "_law_due", "_law_over"] ["_law_box_here"] (defScope s_l_right) := ⟨rfl, rfl, rfl, by decide +kernel, rfl, by decide +kernel, by decide +kernel⟩
abbrev s_p_law : Stmt := top 36
theorem sc_p_law : FnScope ["_law_script", "_law_k"] ["_law_script"] (defScope s_p_law) := ⟨rfl, rfl, rfl, by decide +kernel, rfl, by decide +kernel, by decide +kernel⟩
structure All (K : PySem.W.Frag) (mg : Str → Option Value) where
  f_p_is_number : Addr
  fd_p_is_number : FuncData
  d_p_is_number : Def K mg "is_number" s_p_is_number f_p_is_number fd_p_is_number ["thing"]
  f_p_is_frac : Addr
  fd_p_is_frac : FuncData
  d_p_is_frac : Def K mg "is_frac" s_p_is_frac f_p_is_frac fd_p_is_frac ["thing"]
  f_p_frac_of : Addr
  fd_p_frac_of : FuncData
  d_p_frac_of : Def K mg "frac_of" s_p_frac_of f_p_frac_of fd_p_frac_of ["top", "bottom"]
  f_p_sum_of : Addr
  fd_p_sum_of : FuncData
  d_p_sum_of : Def K mg "sum_of" s_p_sum_of f_p_sum_of fd_p_sum_of ["one", "other"]
  f_p_difference : Addr
  fd_p_difference : FuncData
  d_p_difference : Def K mg "difference" s_p_difference f_p_difference fd_p_difference ["one", "other"]
  f_p_product : Addr
  fd_p_product : FuncData
  d_p_product : Def K mg "product" s_p_product f_p_product fd_p_product ["one", "other"]
  f_p_quotient : Addr
  fd_p_quotient : FuncData
  d_p_quotient : Def K mg "quotient" s_p_quotient f_p_quotient fd_p_quotient ["one", "other"]
  f_p_is_lesser : Addr
  fd_p_is_lesser : FuncData
  d_p_is_lesser : Def K mg "is_lesser" s_p_is_lesser f_p_is_lesser fd_p_is_lesser ["one", "other"]
  f_p_water_at : Addr
  fd_p_water_at : FuncData
  d_p_water_at : Def K mg "water_at" s_p_water_at f_p_water_at fd_p_water_at ["sugar", "mark"]
  f_p_boiled_down : Addr
  fd_p_boiled_down : FuncData
  d_p_boiled_down : Def K mg "boiled_down" s_p_boiled_down f_p_boiled_down fd_p_boiled_down ["juice", "fire", "mark", "hours"]
  f_p_ready_in : Addr
  fd_p_ready_in : FuncData
  d_p_ready_in : Def K mg "ready_in" s_p_ready_in f_p_ready_in fd_p_ready_in ["juice", "fire", "mark"]
  f_p_volume_of : Addr
  fd_p_volume_of : FuncData
  d_p_volume_of : Def K mg "volume_of" s_p_volume_of f_p_volume_of fd_p_volume_of ["juice"]
  f_p_strength_of : Addr
  fd_p_strength_of : FuncData
  d_p_strength_of : Def K mg "strength_of" s_p_strength_of f_p_strength_of fd_p_strength_of ["juice"]
  f_l_cell_at : Addr
  fd_l_cell_at : FuncData
  d_l_cell_at : Def K mg "_law_cell_at" s_l_cell_at f_l_cell_at fd_l_cell_at ["_law_script", "_law_k"]
  f_l_box : Addr
  fd_l_box : FuncData
  d_l_box : Def K mg "_law_box" s_l_box f_l_box fd_l_box ["_law_script", "_law_k"]
  f_l_take : Addr
  fd_l_take : FuncData
  d_l_take : Def K mg "_law_take" s_l_take f_l_take fd_l_take ["_law_box_here", "_law_many"]
  f_l_low : Addr
  fd_l_low : FuncData
  d_l_low : Def K mg "_law_low" s_l_low f_l_low fd_l_low ["_law_top", "_law_bottom"]
  f_l_plus : Addr
  fd_l_plus : FuncData
  d_l_plus : Def K mg "_law_plus" s_l_plus f_l_plus fd_l_plus ["_law_one", "_law_other"]
  f_l_by : Addr
  fd_l_by : FuncData
  d_l_by : Def K mg "_law_by" s_l_by f_l_by fd_l_by ["_law_one", "_law_other"]
  f_l_frac : Addr
  fd_l_frac : FuncData
  d_l_frac : Def K mg "_law_frac" s_l_frac f_l_frac fd_l_frac ["_law_box_here", "_law_below"]
  f_l_share : Addr
  fd_l_share : FuncData
  d_l_share : Def K mg "_law_share" s_l_share f_l_share fd_l_share ["_law_box_here"]
  f_l_same : Addr
  fd_l_same : FuncData
  d_l_same : Def K mg "_law_same" s_l_same f_l_same fd_l_same ["_law_found", "_law_due"]
  f_l_juice : Addr
  fd_l_juice : FuncData
  d_l_juice : Def K mg "_law_juice" s_l_juice f_l_juice fd_l_juice ["_law_box_here"]
  f_l_mark : Addr
  fd_l_mark : FuncData
  d_l_mark : Def K mg "_law_mark" s_l_mark f_l_mark fd_l_mark ["_law_box_here"]
  f_l_is_less : Addr
  fd_l_is_less : FuncData
  d_l_is_less : Def K mg "_law_is_less" s_l_is_less f_l_is_less fd_l_is_less ["_law_one", "_law_other"]
  f_l_is_small : Addr
  fd_l_is_small : FuncData
  d_l_is_small : Def K mg "_law_is_small" s_l_is_small f_l_is_small fd_l_is_small ["_law_one"]
  f_l_case : Addr
  fd_l_case : FuncData
  d_l_case : Def K mg "_law_case" s_l_case f_l_case fd_l_case ["_law_box_here"]
  f_l_on_the_way_right : Addr
  fd_l_on_the_way_right : FuncData
  d_l_on_the_way_right : Def K mg "_law_on_the_way_right" s_l_on_the_way_right f_l_on_the_way_right fd_l_on_the_way_right ["_law_box_here", "_law_juice_here", "_law_fire", "_law_mark_here", "_law_when"]
  f_l_right : Addr
  fd_l_right : FuncData
  d_l_right : Def K mg "_law_right" s_l_right f_l_right fd_l_right ["_law_box_here"]
  f_p_law : Addr
  fd_p_law : FuncData
  d_p_law : Def K mg "law" s_p_law f_p_law fd_p_law ["_law_script"]
  b_abs : mg "abs" = none
  b_all : mg "all" = none
  b_bool : mg "bool" = none
  b_int : mg "int" = none
  b_isinstance : mg "isinstance" = none
  b_len : mg "len" = none
  b_list : mg "list" = none
  b_min : mg "min" = none
  b_range : mg "range" = none
  b_tuple : mg "tuple" = none
  b_zip : mg "zip" = none
  m_gcd : mg "gcd" = some (.builtin "math.gcd")
  C_NOUGHT : Addr
  g_NOUGHT : mg "NOUGHT" = some (.ref C_NOUGHT)
  q_NOUGHT : ∀ H, SqT K H C_NOUGHT [.int 0, .int 1]
end KR
namespace KR
open PySem PySem.Spec PyProof.Rows L2
section
variable {P : Program} {w : World} {K : PySem.W.Frag} {mg : Str → Option Value} {base : Heap}
def sp_l_cell_at (K : PySem.W.Frag) : Sp := fun vs H Q _ => ∃ (a : Addr) (ns : List Int) (k : Int), vs = [.ref a, .int k] ∧ SqL K H a (ns.map V.int) ∧ 0 ≤ k ∧ ∀ z : Int, Q (.int z) H
theorem ok_l_cell_at (T : All K mg) : FnOk P w K mg base CX0 1 T.f_l_cell_at T.fd_l_cell_at ["_law_script", "_law_k"] (sp_l_cell_at K) := by
  refine T.d_l_cell_at.fn.ok sc_l_cell_at (fun vs H Q E h => ?_) (fun cdv A outer s H vs Q E hr h => ?_)
  · obtain ⟨a, ns, k, rfl, _⟩ := h
    rfl
  · obtain ⟨a, ns, k, rfl, hS, h0, q⟩ := h
    refine ⟨_, (pss_cons (ps_if (pt_cmpR op_lt (pv 1) (pe_callB (lenQ (K := K) rfl) (by rfl) T.b_len PySem.boot_len (pa_cons (pv 0) pa_nil)) (nomark _)) (pss_one (ps_ret (pe_ix (ixL (K := K) rfl) (pv 0) (pv 1) (fun _ _ => rfl)))) pss_nil)
      (pss_one (ps_ret pe_int))), ?_⟩
    refine ⟨_, rfl, _, rfl, a, _, rfl, .inl hS, _, _, rfl, rfl, _, rfl, ite2 (fun c => ?_) (fun c => ?_)⟩
    · have c1 : k < ((ns.map V.int).length : Int) := of_decide_eq_true c
      rw [List.length_map] at c1
      refine ⟨_, rfl, _, rfl, a, _, k, _, rfl, rfl, hS, at_of (j := k.toNat) (by omega) (by rw [List.getElem?_map, List.getElem?_eq_getElem (show k.toNat < ns.length by omega)]; rfl), ?_⟩
      exact q _
    · exact q _

end
end KR
namespace KR
open PySem PySem.Spec PyProof.Rows L2
section
variable {P : Program} {w : World} {K : PySem.W.Frag} {mg : Str → Option Value} {base : Heap}
def sp_l_box (K : PySem.W.Frag) : Sp := fun vs H Q _ => ∃ (a : Addr) (ns : List Int) (k : Int), vs = [.ref a, .int k] ∧ SqL K H a (ns.map V.int) ∧ 0 ≤ k ∧ k ≤ 63 ∧ ∀ p H', Same H H' → H p = none → BoxAt H' p 0 → Q (.ref p) H'
theorem ok_l_box (T : All K mg) : FnOk P w K mg base CX0 2 T.f_l_box T.fd_l_box ["_law_script", "_law_k"] (sp_l_box K) := by
  refine T.d_l_box.fn.ok sc_l_box (fun vs H Q E h => ?_) (fun cdv A outer s H vs Q E hr h => ?_)
  · obtain ⟨a, ns, k, rfl, _⟩ := h
    rfl
  · obtain ⟨a, ns, k, rfl, hS, h0, h1, q⟩ := h
    refine ⟨_, (pss_cons (ps_set (i := 2) sc_l_box.nd rfl (by first | exact Or.inl rfl | exact Or.inr rfl) (pe_call (ok_l_cell_at T) hr (by rfl) T.d_l_cell_at.mg T.d_l_cell_at.fn.kp T.d_l_cell_at.b .nil pass0 (pa_cons (pv 0) (pa_cons (pv 1) pa_nil))))
      (pss_one (ps_ret (pe_lstI (pa_cons (pe_op op_mulX (pe_callB call_abs (by rfl) T.b_abs (by decide +kernel) (pa_cons (pv 2) pa_nil)) (pe_callTy call_int1 (by rfl) T.b_int (by decide +kernel) (pa_cons (pe_cmpR op_ge (pe_callB call_abs (by rfl) T.b_abs (by decide +kernel) (pa_cons (pv 2) pa_nil)) (pe_op op_pow pe_int pe_int) (nomark _)) pa_nil))) (pa_cons (pe_op op_add (pe_op op_add (pe_op op_mod (pv 2) pe_int) (pe_op op_mulX pe_int (pv 1))) pe_int) (pa_cons pe_int pa_nil))))))), ?_⟩
    refine ⟨_, rfl, _, rfl, a, ns, k, rfl, hS, h0, fun z => ?_⟩
    refine ⟨_, rfl, _, rfl, _, rfl, _, rfl, _, _, rfl, rfl, ⟨by decide, by decide, by decide⟩, _, _, rfl, rfl, .inr ⟨_, rfl, ?_⟩⟩
    refine ⟨_, _, rfl, rfl, mulR bit_lt, ?_⟩
    refine ⟨_, rfl, _, _, rfl, rfl, (by show (0 : Int) < 2305843009213693951; decide), _, rfl, _, _, rfl, rfl, mulL (by decide), _, _, rfl, rfl, _, _, rfl, rfl, rfl, fun p H1 s1 hp h1 => ?_⟩
    refine q p _ s1 hp ⟨_, _, _, h1, ?_, ?_, ?_, by decide, by decide⟩
    · refine Int.mul_nonneg (by split <;> omega) bit_nn
    · omega
    · omega

end
end KR
namespace KR
open PySem PySem.Spec PyProof.Rows L2
section
variable {P : Program} {w : World} {K : PySem.W.Frag} {mg : Str → Option Value} {base : Heap}
def sp_l_take : Sp := fun vs H Q _ => ∃ (p : Addr) (m : Int) (n : Nat), vs = [.ref p, .int m] ∧ BoxAt H p n ∧ n ≤ 1000000000 ∧ 0 < m ∧ m.natAbs < 2 ^ 200 ∧ ∀ (z : Int) (H' : Hp), 0 ≤ z → z < m → BoxAt H' p (n + 1) → Fr p H H' → Q (.int z) H'
theorem ok_l_take (T : All K mg) : FnOk P w K mg base CX0 1 T.f_l_take T.fd_l_take ["_law_box_here", "_law_many"] sp_l_take := by
  refine T.d_l_take.fn.ok sc_l_take (fun vs H Q E h => ?_) (fun cdv A outer s H vs Q E hr h => ?_)
  · obtain ⟨p, m, n, rfl, _⟩ := h
    rfl
  · obtain ⟨p, m, n, rfl, hB, hn, h0, hm, q⟩ := h
    obtain ⟨a, b, c, hp, ha, hb, hb2, hc, hcn⟩ := hB
    refine ⟨_, (pss_cons (ps_if (pt_cmpR op_gt (pe_ix (ixL (K := K) rfl) (pv 0) pe_int (fun _ _ => rfl)) pe_int (nomark _)) (pss_cons (ps_set (i := 2) sc_l_take.nd rfl (by first | exact Or.inl rfl | exact Or.inr rfl) (pe_op op_mod (pe_ix (ixL (K := K) rfl) (pv 0) pe_int (fun _ _ => rfl)) (pv 1)))
      (pss_cons (ps_asg (pe_op op_fdivW (pe_ix (ixL (K := K) rfl) (pv 0) pe_int (fun _ _ => rfl)) (pv 1)) (pg_sub (pv 0) pe_int set_list))
      (pss_one (ps_ret (pv 2))))) pss_nil)
      (pss_cons (ps_asg (pe_op op_add (pe_ix (ixL (K := K) rfl) (pv 0) pe_int (fun _ _ => rfl)) pe_int) (pg_sub (pv 0) pe_int set_list))
      (pss_cons (ps_set (i := 3) sc_l_take.nd rfl (by first | exact Or.inl rfl | exact Or.inr rfl) (pe_op op_mod (pe_op op_mulX (pe_op op_add (pe_ix (ixL (K := K) rfl) (pv 0) pe_int (fun _ _ => rfl)) (pe_op op_mulX pe_int (pe_ix (ixL (K := K) rfl) (pv 0) pe_int (fun _ _ => rfl)))) (pe_op op_add pe_int (pe_ix (ixL (K := K) rfl) (pv 0) pe_int (fun _ _ => rfl)))) pe_int))
      (pss_cons (ps_set (i := 4) sc_l_take.nd rfl (by first | exact Or.inl rfl | exact Or.inr rfl) (pe_op op_mod (pe_op op_mulX (pe_op op_add (pv 3) (pe_ix (ixL (K := K) rfl) (pv 0) pe_int (fun _ _ => rfl))) (pe_op op_add (pe_op op_mod (pv 3) pe_int) pe_int)) pe_int))
      (pss_one (ps_ret (pe_op op_mod (pe_op op_fdivW (pe_op op_mod (pe_op op_add (pe_op op_mulX (pv 4) pe_int) (pv 3)) pe_int) pe_int) (pv 1)))))))), ?_⟩
    refine ⟨_, rfl, p, _, 0, _, rfl, rfl, SqL.of hp, at0, _, _, rfl, rfl, _, rfl, ite2 (fun c1 => ?_) (fun c1 => ?_)⟩
    · refine ⟨_, rfl, p, _, 0, _, rfl, rfl, SqL.of hp, at0, _, rfl, _, _, rfl, rfl, h0, ?_⟩
      refine ⟨_, rfl, p, _, 0, _, rfl, rfl, SqL.of hp, at0, _, rfl, _, _, rfl, rfl, wide_div h0 hm (by decide) (by decide), ?_⟩
      refine ⟨_, rfl, p, _, 0, 0, rfl, rfl, hp, rfl, ?_⟩
      refine ⟨_, rfl, ?_⟩
      refine q _ _ (Int.emod_nonneg _ (by omega)) (Int.emod_lt_of_pos _ h0) ⟨_, _, _, upd_same, ?_, hb, hb2, hc, by omega⟩ (Fr.put Fr.refl)
      exact Int.ediv_nonneg ha (by omega)
    · refine ⟨_, rfl, p, _, 2, _, rfl, rfl, SqL.of hp, at2, _, _, rfl, rfl, _, rfl, p, _, 2, 2, rfl, rfl, hp, rfl, ?_⟩
      have hp2 : (upd H p (.lst [.int a, .int b, .int (c + 1)])) p = some (.lst [.int a, .int b, .int (c + 1)]) := upd_same
      refine ⟨_, rfl, p, _, 1, _, rfl, rfl, SqL.of hp2, at1, _, rfl, p, _, 2, _, rfl, rfl, SqL.of hp2, at2, _, _, rfl, rfl, mulL (by decide), _, _, rfl, rfl, ?_⟩
      refine ⟨_, rfl, p, _, 2, _, rfl, rfl, SqL.of hp2, at2, _, _, rfl, rfl, _, _, rfl, rfl, mulL (by omega), _, _, rfl, rfl, (by show (0 : Int) < 2147483647; decide), ?_⟩
      generalize e1 : (b + 48271 * (c + 1)) * (39373 + (c + 1)) % 2147483647 = o
      have o1 : 0 ≤ o ∧ o < 2147483647 := by omega
      refine ⟨_, rfl, _, rfl, p, _, 2, _, rfl, rfl, SqL.of hp2, at2, _, _, rfl, rfl, _, rfl, _, _, rfl, rfl, (by show (0 : Int) < 40009; decide), _, _, rfl, rfl, _, _, rfl, rfl, mulL (by omega), _, _, rfl, rfl, (by show (0 : Int) < 2147483629; decide), ?_⟩
      generalize e2 : (o + (c + 1)) * (o % 40009 + 7) % 2147483629 = t
      have t1 : 0 ≤ t ∧ t < 2147483629 := by omega
      refine ⟨_, rfl, _, _, rfl, rfl, mulL (by omega), _, rfl, _, _, rfl, rfl, _, _, rfl, rfl, (by show (0 : Int) < 2147483587; decide), _, _, rfl, rfl, wide_div (b := 10) (by decide) (by decide) (by decide) (by decide), _, rfl, _, _, rfl, rfl, h0, ?_⟩
      exact q _ _ (Int.emod_nonneg _ (by omega)) (Int.emod_lt_of_pos _ h0) ⟨_, _, _, upd_same, ha, hb, hb2, by omega, by omega⟩ (Fr.put Fr.refl)

end
end KR
namespace KR
open PySem PySem.Spec PyProof.Rows L2
section
variable {P : Program} {w : World} {K : PySem.W.Frag} {mg : Str → Option Value} {base : Heap}
theorem ok0_l_low (T : All K mg) : FnOk P w K mg base CX0 1 T.f_l_low T.fd_l_low ["_law_top", "_law_bottom"] sp_low := by
  refine T.d_l_low.fn.ok sc_l_low (fun vs H Q E h => ?_) (fun cdv A outer s H vs Q E hr h => ?_)
  · obtain ⟨t, b, rfl, _⟩ := h
    rfl
  · obtain ⟨t, b, rfl, hb, ht, hb2, q⟩ := h
    refine ⟨_, (pss_cons (ps_par (i := 2) (j := 3) (by rfl) sc_l_low.nd rfl rfl (by decide) rfl rfl (pa_cons (pe_callB call_abs (by rfl) T.b_abs (by decide +kernel) (pa_cons (pv 0) pa_nil)) (pa_cons (pe_callB call_abs (by rfl) T.b_abs (by decide +kernel) (pa_cons (pv 1) pa_nil)) pa_nil)) (by rfl))
      (pss_cons (ps_while PassesOwn.never (pt_cmpR op_gt (pv 3) pe_int (nomark _)) (pss_one (ps_par (i := 2) (j := 3) (by rfl) sc_l_low.nd rfl rfl (by decide) rfl rfl (pa_cons (pv 3) (pa_cons (pe_op op_mod (pv 2) (pv 3)) pa_nil)) (by rfl))))
      (pss_one (ps_ret (pe_tupI (pa_cons (pe_op op_mulX (pe_op op_fdivW (pv 0) (pv 2)) (pe_op op_sub pe_int (pe_op op_mulX pe_int (pe_callTy call_int1 (by rfl) T.b_int (by decide +kernel) (pa_cons (pe_cmpR op_lt (pv 1) pe_int (nomark _)) pa_nil))))) (pa_cons (pe_op op_fdivW (pe_callB call_abs (by rfl) T.b_abs (by decide +kernel) (pa_cons (pv 1) pa_nil)) (pv 2)) pa_nil))))))), ?_⟩
    have abs_ : ∀ z : Int, (if z < 0 then -z else z) = (z.natAbs : Int) := fun z => by split <;> omega
    refine ⟨_, rfl, _, rfl, _, rfl, _, rfl, _, _, rfl, ?_⟩
    rw [abs_, abs_]
    refine ⟨fun m σ H' => ∃ x y : Nat, σ = [some (.int t), some (.int b), some (.int x), some (.int y)] ∧ H' = H ∧ Nat.gcd x y = Nat.gcd t.natAbs b.natAbs ∧ m = y, ⟨_, _, _, rfl, rfl, rfl, rfl⟩, ?_⟩
    rintro m σ H' ⟨x, y, rfl, rfl, hg, rfl⟩
    refine ⟨_, rfl, _, _, rfl, rfl, _, rfl, ite2 (fun c => ?_) (fun c => ?_)⟩
    · have c1 : (0 : Int) < m := of_decide_eq_true c
      refine ⟨fun σ' H1 => ∃ x' y' : Nat, σ' = [some (.int t), some (.int b), some (.int x'), some (.int y')] ∧ H1 = H' ∧ Nat.gcd x' y' = Nat.gcd t.natAbs b.natAbs ∧ y' < m, fun σ' H1 ⟨x', y', e1, e2, e3, e4⟩ => ⟨y', e4, x', y', e1, e2, e3, rfl⟩, ?_⟩
      refine ⟨_, rfl, _, rfl, _, rfl, _, _, rfl, rfl, c1, _, _, rfl, ?_⟩
      refine ⟨m, x % m, by rw [Int.natCast_emod]; rfl, rfl, ?_, Nat.mod_lt _ (by omega)⟩
      rw [← hg, Nat.gcd_comm x m, Nat.gcd_rec m x, Nat.gcd_comm]
    · have c1 : ¬ (0 : Int) < m := of_decide_eq_false (Bool.eq_false_iff.mpr c)
      have m0 : m = 0 := by omega
      subst m0
      rw [Nat.gcd_zero_right] at hg
      have x0 : 0 < x := by
        rw [hg]
        exact Nat.gcd_pos_of_pos_right _ (by omega)
      have x1 : (x : Int).natAbs < 2 ^ 2000 := by
        rw [Int.natAbs_natCast, hg]
        exact Nat.lt_of_le_of_lt (Nat.le_of_dvd (by omega) (Nat.gcd_dvd_right _ _)) hb2
      refine ⟨_, rfl, _, rfl, _, _, rfl, rfl, wide_div (b := 2000) (by omega) x1 (by decide) (by decide), _, rfl, _, _, rfl, rfl, .inr ⟨_, rfl, ?_⟩⟩
      refine ⟨_, _, rfl, rfl, mulL (by decide), _, _, rfl, rfl, _, _, rfl, rfl, mulR (by rcases bit_or (c := decide (b < 0) = true) with z | z <;> rw [z] <;> decide), ?_⟩
      refine ⟨_, rfl, _, rfl, _, rfl, _, _, rfl, rfl, wide_div (b := 2000) (by omega) x1 (by decide) (by decide), rfl, fun p H1 s1 hp h1 => ?_⟩
      have e1 : t / (x : Int) * (1 - 2 * (if decide (b < 0) = true then 1 else 0)) = (low t b).1 := by
        unfold low
        rw [hg]
        by_cases z : b < 0
        · rw [if_pos (decide_eq_true z), if_pos z] <;> rfl
        · rw [if_neg (by rw [decide_eq_false z]; exact Bool.false_ne_true), if_neg z] <;> rfl
      have e2 : (if b < 0 then -b else b) / (x : Int) = (low t b).2 := by
        rw [abs_]
        unfold low
        rw [hg]
      refine q p H1 s1 hp ?_
      rw [← e1, ← e2]
      exact h1
theorem ok_l_low (T : All K mg) : FnOk P w K mg base CX0 1 T.f_l_low T.fd_l_low ["_law_top", "_law_bottom"] (sp_lowQ K) := (ok0_l_low T).imp fun _ _ _ _ h => lowQ h

end
end KR
namespace KR
open PySem PySem.Spec PyProof.Rows L2
section
variable {P : Program} {w : World} {K : PySem.W.Frag} {mg : Str → Option Value} {base : Heap}
theorem ok_l_plus (T : All K mg) : FnOk P w K mg base CX0 2 T.f_l_plus T.fd_l_plus ["_law_one", "_law_other"] (sp_q2 K (fun p q => p + q) (fun _ q => True)) := by
  refine T.d_l_plus.fn.ok sc_l_plus (fun vs H Q E h => ?_) (fun cdv A outer s H vs Q E hr h => ?_)
  · obtain ⟨x, y, p, q, m, n, rfl, _⟩ := h
    rfl
  · obtain ⟨x, y, p, q, m, n, rfl, hx, hy, zp, zq, hmn, hok, k⟩ := h
    have hx' : SqT K H x [.int p.num, .int (p.den : Int)] := hx
    have hy' : SqT K H y [.int q.num, .int (q.den : Int)] := hy
    refine ⟨_, (pss_one (ps_ret (pe_call (ok_l_low T) hr (by rfl) T.d_l_low.mg T.d_l_low.fn.kp T.d_l_low.b .nil pass0 (pa_cons (pe_op op_add (pe_op op_mulX (pe_ix (ixT (K := K) rfl) (pv 0) pe_int (fun _ _ => rfl)) (pe_ix (ixT (K := K) rfl) (pv 1) pe_int (fun _ _ => rfl))) (pe_op op_mulX (pe_ix (ixT (K := K) rfl) (pv 1) pe_int (fun _ _ => rfl)) (pe_ix (ixT (K := K) rfl) (pv 0) pe_int (fun _ _ => rfl)))) (pa_cons (pe_op op_mulX (pe_ix (ixT (K := K) rfl) (pv 0) pe_int (fun _ _ => rfl)) (pe_ix (ixT (K := K) rfl) (pv 1) pe_int (fun _ _ => rfl))) pa_nil))))), ?_⟩
    obtain ⟨a1, a2⟩ := zp
    obtain ⟨b1, b2⟩ := zq
    have hp := den_ne' p
    have hq := den_ne' q
    refine ⟨_, rfl, x, _, 0, _, rfl, rfl, hx', at0, _, rfl, y, _, 1, _, rfl, rfl, hy', at1, _, _, rfl, rfl, mulZ a1 b2 (by omega), _, rfl, y, _, 0, _, rfl, rfl, hy', at0, _, rfl, x, _, 1, _, rfl, rfl, hx', at1, _, _, rfl, rfl, mulZ b1 a2 (by omega), _, _, rfl, rfl, ?_⟩
    refine ⟨_, rfl, x, _, 1, _, rfl, rfl, hx', at1, _, rfl, y, _, 1, _, rfl, rfl, hy', at1, _, _, rfl, rfl, mulZ a2 b2 (by omega), ?_⟩
    refine ⟨_, _, m + n + 1, rfl, Int.mul_ne_zero hp hq, lt_up (add_lt (wide_lt a1 b2) (lt_up (wide_lt b1 a2) (by omega : n + m ≤ m + n))) (by omega), lt_up (wide_lt a2 b2) (by omega), by omega, ?_⟩
    intro z H' s1 n1 h1 s2
    rw [rq_add] at h1 s2
    exact k z H' s1 n1 h1 s2

end
end KR
namespace KR
open PySem PySem.Spec PyProof.Rows L2
section
variable {P : Program} {w : World} {K : PySem.W.Frag} {mg : Str → Option Value} {base : Heap}
theorem ok_l_by (T : All K mg) : FnOk P w K mg base CX0 2 T.f_l_by T.fd_l_by ["_law_one", "_law_other"] (sp_q2 K (fun p q => p * q) (fun _ q => True)) := by
  refine T.d_l_by.fn.ok sc_l_by (fun vs H Q E h => ?_) (fun cdv A outer s H vs Q E hr h => ?_)
  · obtain ⟨x, y, p, q, m, n, rfl, _⟩ := h
    rfl
  · obtain ⟨x, y, p, q, m, n, rfl, hx, hy, zp, zq, hmn, hok, k⟩ := h
    have hx' : SqT K H x [.int p.num, .int (p.den : Int)] := hx
    have hy' : SqT K H y [.int q.num, .int (q.den : Int)] := hy
    refine ⟨_, (pss_one (ps_ret (pe_call (ok_l_low T) hr (by rfl) T.d_l_low.mg T.d_l_low.fn.kp T.d_l_low.b .nil pass0 (pa_cons (pe_op op_mulX (pe_ix (ixT (K := K) rfl) (pv 0) pe_int (fun _ _ => rfl)) (pe_ix (ixT (K := K) rfl) (pv 1) pe_int (fun _ _ => rfl))) (pa_cons (pe_op op_mulX (pe_ix (ixT (K := K) rfl) (pv 0) pe_int (fun _ _ => rfl)) (pe_ix (ixT (K := K) rfl) (pv 1) pe_int (fun _ _ => rfl))) pa_nil))))), ?_⟩
    obtain ⟨a1, a2⟩ := zp
    obtain ⟨b1, b2⟩ := zq
    have hp := den_ne' p
    have hq := den_ne' q
    refine ⟨_, rfl, x, _, 0, _, rfl, rfl, hx', at0, _, rfl, y, _, 0, _, rfl, rfl, hy', at0, _, _, rfl, rfl, mulZ a1 b1 (by omega), ?_⟩
    refine ⟨_, rfl, x, _, 1, _, rfl, rfl, hx', at1, _, rfl, y, _, 1, _, rfl, rfl, hy', at1, _, _, rfl, rfl, mulZ a2 b2 (by omega), ?_⟩
    refine ⟨_, _, m + n + 1, rfl, Int.mul_ne_zero hp hq, lt_up (wide_lt a1 b1) (by omega), lt_up (wide_lt a2 b2) (by omega), by omega, ?_⟩
    intro z H' s1 n1 h1 s2
    rw [rq_mul] at h1 s2
    exact k z H' s1 n1 h1 s2

end
end KR
namespace KR
open PySem PySem.Spec PyProof.Rows L2
section
variable {P : Program} {w : World} {K : PySem.W.Frag} {mg : Str → Option Value} {base : Heap}
def sp_l_frac (K : PySem.W.Frag) : Sp := fun vs H Q _ => ∃ (p : Addr) (bl : Bool) (n : Nat), vs = [.ref p, .bl bl] ∧ BoxAt H p n ∧ n ≤ 999999000 ∧ ∀ (a : Addr) (q : Rat) (H' : Hp), Sz 133 q → (bl = false → 0 ≤ q) → FrQ K H' a q → BoxAt H' p (n + 5) → Fr p H H' → Q (.ref a) H'
theorem ok_l_frac (T : All K mg) : FnOk P w K mg base CX0 2 T.f_l_frac T.fd_l_frac ["_law_box_here", "_law_below"] (sp_l_frac K) := by
  refine T.d_l_frac.fn.ok sc_l_frac (fun vs H Q E h => ?_) (fun cdv A outer s H vs Q E hr h => ?_)
  · obtain ⟨p, bl, n, rfl, _⟩ := h
    rfl
  · obtain ⟨p, bl, n, rfl, hB, hn, q⟩ := h
    refine ⟨_, (pss_cons (ps_par (i := 2) (j := 3) (by rfl) sc_l_frac.nd rfl rfl (by decide) rfl rfl (pa_cons (pe_call (ok_l_take T) hr (by rfl) T.d_l_take.mg T.d_l_take.fn.kp T.d_l_take.b .nil pass0 (pa_cons (pv 0) (pa_cons pe_int pa_nil))) (pa_cons (pe_op op_sub pe_int (pe_op op_mulX (pe_op op_mulX pe_int (pe_call (ok_l_take T) hr (by rfl) T.d_l_take.mg T.d_l_take.fn.kp T.d_l_take.b .nil pass0 (pa_cons (pv 0) (pa_cons pe_int pa_nil)))) (pe_callTy call_int1 (by rfl) T.b_int (by decide +kernel) (pa_cons (pv 1) pa_nil)))) pa_nil)) (by rfl))
      (pss_cons (ps_if (pt_cmpR op_eq (pv 2) pe_int (nomark _)) (pss_one (ps_ret (pe_tupI (pa_cons (pe_op op_mulX (pe_call (ok_l_take T) hr (by rfl) T.d_l_take.mg T.d_l_take.fn.kp T.d_l_take.b .nil pass0 (pa_cons (pv 0) (pa_cons pe_int pa_nil))) (pv 3)) (pa_cons pe_int pa_nil))))) pss_nil)
      (pss_cons (ps_set (i := 4) sc_l_frac.nd rfl (by first | exact Or.inl rfl | exact Or.inr rfl) (pe_ix (ixL (K := K) rfl) (pe_lstI (pa_cons pe_int (pa_cons pe_int (pa_cons (pe_op op_pow pe_int pe_int) (pa_cons (pe_op op_sub (pe_op op_pow pe_int pe_int) pe_int) pa_nil))))) (pe_op op_sub (pv 2) pe_int) (fun _ _ => rfl)))
      (pss_one (ps_ret (pe_call (ok_l_low T) hr (by rfl) T.d_l_low.mg T.d_l_low.fn.kp T.d_l_low.b .nil pass0 (pa_cons (pe_op op_mulX (pe_op op_add (pe_call (ok_l_take T) hr (by rfl) T.d_l_take.mg T.d_l_take.fn.kp T.d_l_take.b .nil pass0 (pa_cons (pv 0) (pa_cons (pv 4) pa_nil))) (pe_call (ok_l_take T) hr (by rfl) T.d_l_take.mg T.d_l_take.fn.kp T.d_l_take.b .nil pass0 (pa_cons (pv 0) (pa_cons pe_int pa_nil)))) (pv 3)) (pa_cons (pe_op op_add pe_int (pe_call (ok_l_take T) hr (by rfl) T.d_l_take.mg T.d_l_take.fn.kp T.d_l_take.b .nil pass0 (pa_cons (pv 0) (pa_cons (pv 4) pa_nil)))) pa_nil)))))))), ?_⟩
    refine ⟨_, rfl, p, 5, n, rfl, hB, by omega, by decide, by decide, fun way H1 w0 w1 B1 F1 => ?_⟩
    refine ⟨_, rfl, p, 2, n + 1, rfl, B1, by omega, by decide, by decide, fun sg H2 s0 s1 B2 F2 => ?_⟩
    refine ⟨_, _, rfl, rfl, mulL (by decide), _, rfl, .inr ⟨_, rfl, ?_⟩⟩
    refine ⟨_, _, rfl, rfl, mulR bit_lt, _, _, rfl, rfl, _, _, rfl, ?_⟩
    have hsg : ∃ sn : Int, 1 - 2 * sg * (if bl = true then 1 else 0) = sn ∧ (sn = 1 ∨ sn = -1) ∧ (bl = false → sn = 1) := ⟨_, rfl, by split <;> omega, fun e => by rw [e] <;> simp⟩
    obtain ⟨sn, esn, hsn, hbl⟩ := hsg
    dsimp only
    rw [esn]
    refine ⟨_, rfl, rfl, _, rfl, ite2 (fun c => ?_) (fun c => ?_)⟩
    · refine ⟨_, rfl, p, 3, n + 2, rfl, B2, by omega, by decide, by decide, fun z H3 z0 z1 B3 F3 => ?_⟩
      refine ⟨_, rfl, _, _, rfl, rfl, mulL (by omega), rfl, fun a H4 s4 ha h4 => ?_⟩
      have zz : z * sn = z ∨ z * sn = -z := by
        rcases hsn with e | e <;> rw [e] <;> omega
      refine q a ((z * sn : Int) : Rat) _ (Sz.int (by omega) (by decide)) (fun e => cast_nn (by rw [hbl e]; omega)) (.int h4) ((B3.same s4).mono (by omega)) (((F1.trans F2).trans F3).trans (Fr.of s4))
    · have c0 : way ≠ 0 := fun e => c (by rw [e]; exact decide_eq_true rfl)
      refine ⟨_, _, rfl, rfl, ⟨by decide, by decide, by decide⟩, _, _, rfl, rfl, ⟨by decide, by decide, by decide⟩, _, _, rfl, rfl, rfl, fun l H3 s3 hl h3 => ?_⟩
      obtain ⟨m, em, h0, h1⟩ : ∃ m : Int, atI ([.int 12, .int 1000, .int (10 ^ (20 : Int).toNat), .int (10 ^ (40 : Int).toNat - 100)] : List V) (way - 1) = some (.int m) ∧ 0 < m ∧ m ≤ 10 ^ 40 - 100 := by
        have w2 : way = 1 ∨ way = 2 ∨ way = 3 ∨ way = 4 := by omega
        rcases w2 with e | e | e | e <;> subst e
        · exact ⟨_, rfl, by decide, by decide⟩
        · exact ⟨_, rfl, by decide, by decide⟩
        · exact ⟨_, rfl, by decide, by decide⟩
        · exact ⟨_, rfl, by decide, by decide⟩
      refine ⟨_, rfl, _, _, rfl, rfl, l, _, _, _, rfl, rfl, SqL.of h3, em, ?_⟩
      have h1' : m.natAbs < 2 ^ 200 := by omega
      refine ⟨_, rfl, _, rfl, p, m, n + 2, rfl, B2.same s3, by omega, h0, h1', fun z H4 z0 z1 B4 F4 => ?_⟩
      refine ⟨_, rfl, p, 2, n + 3, rfl, B4, by omega, by decide, by decide, fun y H5 y0 y1 B5 F5 => ?_⟩
      refine ⟨_, _, rfl, rfl, _, rfl, _, _, rfl, rfl, mulR (by omega), ?_⟩
      refine ⟨_, rfl, _, rfl, p, m, n + 4, rfl, B5, by omega, h0, h1', fun x H6 x0 x1 B6 F6 => ?_⟩
      have zz : (z + y) * sn = z + y ∨ (z + y) * sn = -(z + y) := by
        rcases hsn with e | e <;> rw [e] <;> omega
      have b1 : ((z + y) * sn).natAbs < 10 ^ 40 := by omega
      have b2 : (1 + x).natAbs < 10 ^ 40 := by omega
      refine ⟨_, _, rfl, rfl, _, _, 133, rfl, by omega, b133 b1, b133 b2, by decide, fun a H7 s7 ha h7 k7 => ?_⟩
      refine q a _ _ k7 (fun e => rq_nn (by rw [hbl e]; omega) (by omega)) h7 (B6.same s7) ?_
      exact (((((F1.trans F2).trans (.of s3)).trans F4).trans F5).trans F6).trans (.of s7)

end
end KR
namespace KR
open PySem PySem.Spec PyProof.Rows L2
section
variable {P : Program} {w : World} {K : PySem.W.Frag} {mg : Str → Option Value} {base : Heap}
def sp_l_share (K : PySem.W.Frag) : Sp := fun vs H Q _ => ∃ (p : Addr) (n : Nat), vs = [.ref p] ∧ BoxAt H p n ∧ n ≤ 999999000 ∧ ∀ (a : Addr) (q : Rat) (H' : Hp), Sz 4 q → 0 < q → q ≤ 1 → FrQ K H' a q → BoxAt H' p (n + 2) → Fr p H H' → Q (.ref a) H'
theorem ok_l_share (T : All K mg) : FnOk P w K mg base CX0 2 T.f_l_share T.fd_l_share ["_law_box_here"] (sp_l_share K) := by
  refine T.d_l_share.fn.ok sc_l_share (fun vs H Q E h => ?_) (fun cdv A outer s H vs Q E hr h => ?_)
  · obtain ⟨p, n, rfl, _⟩ := h
    rfl
  · obtain ⟨p, n, rfl, hB, hn, q⟩ := h
    refine ⟨_, (pss_cons (ps_set (i := 1) sc_l_share.nd rfl (by first | exact Or.inl rfl | exact Or.inr rfl) (pe_op op_add pe_int (pe_call (ok_l_take T) hr (by rfl) T.d_l_take.mg T.d_l_take.fn.kp T.d_l_take.b .nil pass0 (pa_cons (pv 0) (pa_cons pe_int pa_nil)))))
      (pss_one (ps_ret (pe_call (ok_l_low T) hr (by rfl) T.d_l_low.mg T.d_l_low.fn.kp T.d_l_low.b .nil pass0 (pa_cons (pe_op op_add pe_int (pe_call (ok_l_take T) hr (by rfl) T.d_l_take.mg T.d_l_take.fn.kp T.d_l_take.b .nil pass0 (pa_cons (pv 0) (pa_cons (pv 1) pa_nil)))) (pa_cons (pv 1) pa_nil)))))), ?_⟩
    refine ⟨_, rfl, p, 12, n, rfl, hB, by omega, by decide, by decide, fun z H1 z0 z1 B1 F1 => ?_⟩
    refine ⟨_, _, rfl, rfl, ?_⟩
    refine ⟨_, rfl, _, rfl, p, _, n + 1, rfl, B1, by omega, by omega, by omega, fun y H2 y0 y1 B2 F2 => ?_⟩
    refine ⟨_, _, rfl, rfl, _, rfl, ?_⟩
    refine ⟨_, _, 4, rfl, by omega, by omega, by omega, by decide, fun a H3 s3 n3 h3 k3 => ?_⟩
    exact q a _ _ k3 (rq_pos (by omega) (by omega)) (rq_le_one (by omega) (by omega)) h3 (B2.same s3) (F1.trans (F2.trans (.of s3)))

end
end KR
namespace KR
open PySem PySem.Spec PyProof.Rows L2
section
variable {P : Program} {w : World} {K : PySem.W.Frag} {mg : Str → Option Value} {base : Heap}
def sp_l_same (K : PySem.W.Frag) (n : Nat) : Sp := fun vs H Q _ => ∃ (v w : V) (d : PyData), vs = [v, w] ∧ Dk K H n v d ∧ Dk K H n w d ∧ ∀ H', Same H H' → Q (.bl true) H'
/-- how two alike things look: no list and no tuple, or two lists, or two tuples -/
inductive Look2 (K : PySem.W.Frag) (H : Hp) (n : Nat) (v w : V) (d : PyData) : Prop
  | leaf (t : String) (bb bi : Bool) (e : v = w) (ty : TyX K H w (.type t)) (kl : kitB t "list" = some false) (kt : kitB t "tuple" = some false) (kb : kitB t "bool" = some bb) (ki : kitB t "int" = some bi) (dp : Dp K H w d) (sh : SeqAt.shaped d = true)
  | both (t : String) (bl bt : Bool) (a b : Addr) (xs ys : List V) (ds : List PyData) (e1 : v = .ref a) (e2 : w = .ref b) (ty1 : TyX K H v (.type t)) (ty2 : TyX K H w (.type t)) (kl : kitB t "list" = some bl) (kt : kitB t "tuple" = some bt) (kk : bl = false → bt = true)
    (lx : xs.length = ds.length) (ly : ys.length = ds.length) (l9 : xs.length ≤ 100000) (dx : ∀ (i : Nat) (x : V) (d : PyData), xs[i]? = some x → ds[i]? = some d → Dk K H n x d) (dy : ∀ (i : Nat) (x : V) (d : PyData), ys[i]? = some x → ds[i]? = some d → Dk K H n x d)
    (h : (H a = some (.lst xs) ∧ H b = some (.lst ys)) ∨ (SqT K H a xs ∧ SqT K H b ys))
theorem look2 {K : PySem.W.Frag} {H : Hp} {n : Nat} {v w : V} {d : PyData} (h1 : Dk K H (n + 1) v d) (h2 : Dk K H (n + 1) w d) : Look2 K H n v w d := by
  cases h1 with
  | non => cases h2; exact .leaf "NoneType" false false rfl (.base .non) (by decide +kernel) (by decide +kernel) (by decide +kernel) (by decide +kernel) .non rfl
  | bl _ b => cases h2; exact .leaf "bool" true true rfl (.base (.bl b)) (by decide +kernel) (by decide +kernel) (by decide +kernel) (by decide +kernel) (.bl b) rfl
  | int _ i => cases h2; exact .leaf "int" false true rfl (.base (.int i)) (by decide +kernel) (by decide +kernel) (by decide +kernel) (by decide +kernel) (.int i) rfl
  | str _ x ok => cases h2; exact .leaf "str" false false rfl (.base (.str x)) (by decide +kernel) (by decide +kernel) (by decide +kernel) (by decide +kernel) (.str x) (by show (PyData.canLay0 (.str x) && decide (PyData.depth (.str x) ≤ 64)) = true; rw [ok]; rfl)
  | lst a1 a2 a3 a4 =>
    cases h2 with
    | lst b1 b2 b3 b4 => exact .both "list" true false _ _ _ _ _ rfl rfl (.base (.lst a1)) (.base (.lst b1)) (by decide +kernel) (by decide +kernel) (fun z => nomatch z) a2 b2 a3 a4 b4 (.inl ⟨a1, b1⟩)
  | tup a1 a2 a3 a4 =>
    cases h2 with
    | tup b1 b2 b3 b4 => exact .both "tuple" false true _ _ _ _ _ rfl rfl (sqT_ty a1) (sqT_ty b1) (by decide +kernel) (by decide +kernel) (fun _ => rfl) a2 b2 a3 a4 b4 (.inr ⟨a1, b1⟩)
theorem none_l_same {f : Addr} {fd : FuncData} : FnOk P w K mg base CX0 0 f fd ["_law_found", "_law_due"] (sp_l_same K 0) := by
  have no : ∀ vs H Q E, ¬ sp_l_same K 0 vs H Q E := fun vs H Q E h => by
    obtain ⟨v, w, d, _, h1, _⟩ := h
    cases h1
  exact ⟨fun vs H Q E h => absurd h (no vs H Q E), fun A outer s H args us vs Q E _ _ _ _ h => absurd h (no vs H Q E)⟩
theorem step_l_same (T : All K mg) {n : Nat} (ih : FnOk P w K mg base CX0 n T.f_l_same T.fd_l_same ["_law_found", "_law_due"] (sp_l_same K n)) : FnOk P w K mg base CX0 (n + 1) T.f_l_same T.fd_l_same ["_law_found", "_law_due"] (sp_l_same K (n + 1)) := by
  refine T.d_l_same.fn.ok sc_l_same (fun vs H Q E h => ?_) (fun cdv A outer s H vs Q E hr h => ?_)
  · obtain ⟨v, w, d, rfl, _⟩ := h
    rfl
  · obtain ⟨v, w, d, rfl, h1, h2, q⟩ := h
    refine ⟨_, (pss_cons (ps_if (pt_val (pe_callB (isiTK (K := K) rfl) (by rfl) T.b_isinstance (by decide +kernel) (pa_cons (pv 1) (pa_cons (pe_tupI (pa_cons (pe_bltn (v := .ty "list") (by rfl) T.b_list (by decide +kernel) rfl) (pa_cons (pe_bltn (v := .ty "tuple") (by rfl) T.b_tuple (by decide +kernel) rfl) pa_nil))) pa_nil)))) (pss_cons (ps_if (PW.pt (pw_or (pt_cmpR op_ne (pe_callB (isiK (K := K) rfl) (by rfl) T.b_isinstance (by decide +kernel) (pa_cons (pv 0) (pa_cons (pe_bltn (v := .ty "list") (by rfl) T.b_list (by decide +kernel) rfl) pa_nil))) (pe_callB (isiK (K := K) rfl) (by rfl) T.b_isinstance (by decide +kernel) (pa_cons (pv 1) (pa_cons (pe_bltn (v := .ty "list") (by rfl) T.b_list (by decide +kernel) rfl) pa_nil))) (nomark _)) (pw_or1 (pt_cmpR op_ne (pe_callB (isiK (K := K) rfl) (by rfl) T.b_isinstance (by decide +kernel) (pa_cons (pv 0) (pa_cons (pe_bltn (v := .ty "tuple") (by rfl) T.b_tuple (by decide +kernel) rfl) pa_nil))) (pe_callB (isiK (K := K) rfl) (by rfl) T.b_isinstance (by decide +kernel) (pa_cons (pv 1) (pa_cons (pe_bltn (v := .ty "tuple") (by rfl) T.b_tuple (by decide +kernel) rfl) pa_nil))) (nomark _))))) (pss_one (ps_ret pe_bl)) pss_nil)
      (pss_one (ps_ret (pe_and (pe_cmpR op_eq (pe_callB (lenA (K := K) rfl) (by rfl) T.b_len PySem.boot_len (pa_cons (pv 0) pa_nil)) (pe_callB (lenA (K := K) rfl) (by rfl) T.b_len PySem.boot_len (pa_cons (pv 1) pa_nil)) (nomark _)) (pe_one (pe_callB (allK (K := K) rfl rfl) (by rfl) T.b_all (by decide +kernel) (pa_cons (pe_lc (own := [("_law_one", 2), ("_law_other", 3)]) (g := gTup K 2 (gCons (gName 2) (gCons (gName 3) gNil))) (tt := tYes) (by rfl) sc_l_same.nd (pi_zipK (K := K) rfl (by rfl) T.b_zip (pa_cons (pv 0) (pa_cons (pv 1) pa_nil))) (blkOk_by (own := [("_law_one", 2), ("_law_other", 3)]) (N := ["_law_found", "_law_due", "_law_one", "_law_other"]) (sc := defScope s_l_same) (by decide +kernel)) (fun _ _ _ _ _ => (pg_tupK (K := K) rfl rfl (pgs_cons (pg_name (i := 2) sc_l_same.nd rfl (by first | exact Or.inl rfl | exact Or.inr rfl)) (pgs_cons (pg_name (i := 3) sc_l_same.nd rfl (by first | exact Or.inl rfl | exact Or.inr rfl)) pgs_nil)))) (fun _ _ _ _ _ => pts_nil) (fun _ _ _ _ _ => (pe_call ih hr (by rfl) T.d_l_same.mg T.d_l_same.fn.kp T.d_l_same.b .nil pass0 (pa_cons (pv 2) (pa_cons (pv 3) pa_nil))))) pa_nil))))))) pss_nil)
      (pss_cons (ps_if (PW.pt (pw_or (pt_cmpR op_ne (pe_callB (isiK (K := K) rfl) (by rfl) T.b_isinstance (by decide +kernel) (pa_cons (pv 0) (pa_cons (pe_bltn (v := .ty "bool") (by rfl) T.b_bool (by decide +kernel) rfl) pa_nil))) (pe_callB (isiK (K := K) rfl) (by rfl) T.b_isinstance (by decide +kernel) (pa_cons (pv 1) (pa_cons (pe_bltn (v := .ty "bool") (by rfl) T.b_bool (by decide +kernel) rfl) pa_nil))) (nomark _)) (pw_or1 (pt_cmpR op_ne (pe_callB (isiK (K := K) rfl) (by rfl) T.b_isinstance (by decide +kernel) (pa_cons (pv 0) (pa_cons (pe_bltn (v := .ty "int") (by rfl) T.b_int (by decide +kernel) rfl) pa_nil))) (pe_callB (isiK (K := K) rfl) (by rfl) T.b_isinstance (by decide +kernel) (pa_cons (pv 1) (pa_cons (pe_bltn (v := .ty "int") (by rfl) T.b_int (by decide +kernel) rfl) pa_nil))) (nomark _))))) (pss_one (ps_ret pe_bl)) pss_nil)
      (pss_one (ps_ret (pe_cmpR (eqDK (K := K) rfl hr.units) (pv 0) (pv 1) (nomark _)))))), ?_⟩
    refine ⟨_, rfl, rfl, fun tp H1 s1 htp htp2 => ?_⟩
    have lk : Look2 K H1 n v w d := look2 (h1.same s1) (h2.same s1)
    cases lk with
    | leaf t bb bi e ty kl kt kb ki dp sh =>
      subst e
      refine ⟨_, tp, _, _, [.type "list", .type "tuple"], false, rfl, htp2, .cons (.ty _) (.cons (.ty _) .nil), ty, kitAny_cons (kit_ty kl) (fun _ => kitAny_cons (kit_ty kt) (fun _ => rfl) (fun z => nomatch z)) (fun z => nomatch z), false, rfl, iteF ?_⟩
      refine ⟨_, rfl, _, _, _, _, _, rfl, .ty _, ty, kit_ty kb, _, rfl, _, _, _, _, _, rfl, .ty _, ty, kit_ty kb, rfl, _, rfl, ?_⟩
      rw [decide_eq_true rfl]
      refine iteF ?_
      refine ⟨_, rfl, _, _, _, _, _, rfl, .ty _, ty, kit_ty ki, _, rfl, _, _, _, _, _, rfl, .ty _, ty, kit_ty ki, rfl, _, rfl, ?_⟩
      rw [decide_eq_true rfl]
      refine iteF ?_
      refine ⟨_, rfl, _, rfl, d, d, dp, dp, sh, sh, ?_⟩
      rw [SeqAt.eqv_refl _ (SeqAt.canLay_of_shaped sh)]
      exact q _ s1
    | both t bl bt a b xs ys ds e1 e2 ty1 ty2 kl kt kk lx ly l9 dx dy hab =>
      subst e1 e2
      refine ⟨_, tp, _, _, [.type "list", .type "tuple"], true, rfl, htp2, .cons (.ty _) (.cons (.ty _) .nil), ty2, kitAny_cons (kit_ty kl) (fun z => kitAny_cons (kit_ty kt) (fun y => nomatch (kk z).symm.trans y) (fun _ => rfl)) (fun _ => rfl), true, rfl, iteT ?_⟩
      refine ⟨_, rfl, _, _, _, _, _, rfl, .ty _, ty1, kit_ty kl, _, rfl, _, _, _, _, _, rfl, .ty _, ty2, kit_ty kl, rfl, _, rfl, ?_⟩
      rw [decide_eq_true rfl]
      refine iteF ?_
      refine ⟨_, rfl, _, _, _, _, _, rfl, .ty _, ty1, kit_ty kt, _, rfl, _, _, _, _, _, rfl, .ty _, ty2, kit_ty kt, rfl, _, rfl, ?_⟩
      rw [decide_eq_true rfl]
      refine iteF ?_
      have hlen : ∀ (c : Addr) (zs : List V), (H1 c = some (.lst zs) ∨ SqT K H1 c zs) → LenV K (.ref c) H1 zs.length := fun c zs h => by
        rcases h with h | h
        · exact .inl ⟨_, SqL.of h, rfl⟩
        · exact .inr ⟨_, h, rfl⟩
      refine ⟨_, rfl, _, _, rfl, hlen a xs (hab.imp (·.1) (·.1)), _, rfl, _, _, rfl, hlen b ys (hab.imp (·.2) (·.2)), rfl, _, rfl, ?_⟩
      have el : decide (V.int (xs.length : Int) = V.int (ys.length : Int)) = true := decide_eq_true (by rw [lx, ly])
      rw [el]
      refine iteT ?_
      -- the turns of zip
      have turn : ∀ (D : Addr) (H2 : Hp) (i : Nat) (T0 : Addr), H1 D = none → i < xs.length → Same H1 H2 → H2 D = some (.lst (List.replicate i (.bl true))) → H2 T0 = none →
          sp_l_same K n [xs.getD i .non, ys.getD i .non] (upd H2 T0 (.tup [xs.getD i .non, ys.getD i .non])) (fun y H4 => ∃ acc, H4 D = some (.lst acc) ∧ acc.length < sizeLine ∧ (Same H1 (upd H4 D (.lst (acc ++ [y]))) ∧ (upd H4 D (.lst (acc ++ [y]))) D = some (.lst (List.replicate (i + 1) (.bl true))))) E0 := by
        intro D H2 i T0 hD hi sm hd hT
        have sT : Same H2 (upd H2 T0 (.tup [xs.getD i .non, ys.getD i .non])) := same_new hT
        have gx := getD_of hi
        have gy := getD_of (show i < ys.length by omega)
        have gd : ds[i]? = some ds[i] := List.getElem?_eq_getElem (by omega)
        refine ⟨_, _, ds[i], rfl, (dx i _ _ gx gd).same (sm.trans sT), (dy i _ _ gy gd).same (sm.trans sT), fun H4 s4 => ?_⟩
        refine ⟨_, s4 _ _ (sT _ _ hd), by rw [List.length_replicate]; exact small' (by omega), Same.put ((sm.trans sT).trans s4) hD, ?_⟩
        rw [upd_same, List.replicate_succ'] <;> rfl
      refine ⟨_, rfl, _, rfl, a, b, xs, ys, rfl, ?_⟩
      have fin : ∀ (D : Addr) (H2 : Hp), Same H1 H2 ∧ H2 D = some (.lst (List.replicate xs.length (.bl true))) → ∃ (a : Addr) (bs : List Bool), [V.ref D] = [V.ref a] ∧ SqL K H2 a (bs.map V.bl) ∧ Q (.bl (bs.all id)) H2 := fun D H2 ⟨sm, hd⟩ => by
        obtain ⟨t1, t2⟩ := all_true xs.length
        refine ⟨D, List.replicate xs.length true, rfl, SqL.of (by rw [t1]; exact hd), ?_⟩
        rw [t2]
        exact q H2 (s1.trans sm)
      rcases hab with ⟨ha, hb⟩ | ⟨ha, hb⟩
      · refine .inl ⟨SqL.of ha, SqL.of hb, fun D hD => ?_⟩
        refine lc_pair (n := xs.length) (St := fun H2 => SqL K H2 a xs ∧ SqL K H2 b ys) (fun i H2 => zipL_go rfl (by omega)) (fun H2 => zipL_stop rfl) (fun i H2 v H3 => zipL_yld rfl (by omega))
          (fun i H2 => Same H1 H2 ∧ H2 D = some (.lst (List.replicate i (.bl true)))) ⟨same_new hD, upd_same⟩ (fun i H2 _ z => ⟨SqL.of (z.1 _ _ ha), SqL.of (z.1 _ _ hb)⟩) (fun i T0 H2 hi z hT => ?_) (fun H2 z => fin D H2 z)
        refine ⟨T0, _, rfl, SqT.of upd_same, rfl, _, _, rfl, _, _, rfl, rfl, rfl, yesT ?_⟩
        exact ⟨_, rfl, _, rfl, turn D H2 i T0 hD hi z.1 z.2 hT⟩
      · refine .inr ⟨ha, hb, fun D hD => ?_⟩
        refine lc_pair (n := xs.length) (St := fun H2 => SqT K H2 a xs ∧ SqT K H2 b ys) (fun i H2 => zipT_go rfl (by omega)) (fun H2 => zipT_stop rfl) (fun i H2 v H3 => zipT_yld rfl (by omega))
          (fun i H2 => Same H1 H2 ∧ H2 D = some (.lst (List.replicate i (.bl true)))) ⟨same_new hD, upd_same⟩ (fun i H2 _ z => ⟨Same.tup z.1 ha, Same.tup z.1 hb⟩) (fun i T0 H2 hi z hT => ?_) (fun H2 z => fin D H2 z)
        refine ⟨T0, _, rfl, SqT.of upd_same, rfl, _, _, rfl, _, _, rfl, rfl, rfl, yesT ?_⟩
        exact ⟨_, rfl, _, rfl, turn D H2 i T0 hD hi z.1 z.2 hT⟩
theorem ok_l_same (T : All K mg) : FnOk P w K mg base CX0 5 T.f_l_same T.fd_l_same ["_law_found", "_law_due"] (sp_l_same K 5) := by
  have go : ∀ n, FnOk P w K mg base CX0 n T.f_l_same T.fd_l_same ["_law_found", "_law_due"] (sp_l_same K n) := fun n => by
    induction n with
    | zero => exact none_l_same
    | succ n ih => exact step_l_same T ih
  exact go _

end
end KR
namespace KR
open PySem PySem.Spec PyProof.Rows L2
section
variable {P : Program} {w : World} {K : PySem.W.Frag} {mg : Str → Option Value} {base : Heap}
def sp_l_juice (K : PySem.W.Frag) : Sp := fun vs H Q _ => ∃ (p : Addr) (n : Nat), vs = [.ref p] ∧ BoxAt H p n ∧ n ≤ 999998000 ∧ ∀ (a : Addr) (s w : Rat) (H' : Hp), Sz 133 s → Sz 133 w → 0 ≤ s → 0 ≤ w → JuQ K H' a s w → BoxAt H' p (n + 12) → Fr p H H' → Q (.ref a) H'
theorem ok_l_juice (T : All K mg) : FnOk P w K mg base CX0 3 T.f_l_juice T.fd_l_juice ["_law_box_here"] (sp_l_juice K) := by
  refine T.d_l_juice.fn.ok sc_l_juice (fun vs H Q E h => ?_) (fun cdv A outer s H vs Q E hr h => ?_)
  · obtain ⟨p, n, rfl, _⟩ := h
    rfl
  · obtain ⟨p, n, rfl, hB, hn, q⟩ := h
    refine ⟨_, (pss_one (ps_ret (pe_callTy call_tuple_of (by rfl) T.b_tuple (by decide +kernel) (pa_cons (pe_lc (own := [("_law_part", 1)]) (g := gName 1) (tt := tYes) (by rfl) sc_l_juice.nd (pi_range1 (by rfl) T.b_range (pa_cons pe_int pa_nil)) (blkOk_by (own := [("_law_part", 1)]) (N := ["_law_box_here", "_law_part"]) (sc := defScope s_l_juice) (by decide +kernel)) (fun _ _ _ _ _ => (pg_name (i := 1) sc_l_juice.nd rfl (by first | exact Or.inl rfl | exact Or.inr rfl))) (fun _ _ _ _ _ => pts_nil) (fun _ _ _ _ _ => (pe_ifExp (pt_cmpR op_gt (pe_call (ok_l_take T) (hr.mono (by decide)) (by rfl) T.d_l_take.mg T.d_l_take.fn.kp T.d_l_take.b .nil pass0 (pa_cons (pv 0) (pa_cons pe_int pa_nil))) pe_int (nomark _)) (pe_call (ok_l_frac T) hr (by rfl) T.d_l_frac.mg T.d_l_frac.fn.kp T.d_l_frac.b .nil pass0 (pa_cons (pv 0) (pa_cons pe_bl pa_nil))) (pe_tupI (pa_cons pe_int (pa_cons pe_int pa_nil)))))) pa_nil)))), ?_⟩
    refine ⟨2, rfl, by decide, by decide, fun D hD => ?_⟩
    have hne : D ≠ p := hB.new hD
    refine lc_range (lo := 0) (n := 2) (fun i H' => ∃ l : List (Addr × Rat), l.length = i ∧ H' D = some (.lst (l.map fun z => V.ref z.1)) ∧ (∀ z ∈ l, FrQ K H' z.1 z.2 ∧ Sz 133 z.2 ∧ 0 ≤ z.2) ∧ BoxAt H' p (n + 6 * i) ∧ Fr p H H')
      ⟨[], rfl, upd_same, fun z hz => absurd hz List.not_mem_nil, hB.upd hne, Fr.put' Fr.refl hD⟩ (fun i H1 hi z => ?_) (fun H1 z => ?_)
    · obtain ⟨l, ll, hd, L, B, F⟩ := z
      refine ⟨rfl, yesT ?_⟩
      refine ⟨_, rfl, p, 6, n + 6 * i, rfl, B, by omega, by decide, by decide, fun z H2 z0 z1 B2 F2 => ?_⟩
      refine ⟨_, _, rfl, rfl, _, rfl, ?_⟩
      have fin : ∀ (a : Addr) (r : Rat) (H3 : Hp), FrQ K H3 a r → Sz 133 r → 0 ≤ r → BoxAt H3 p (n + 6 * i + 6) → Fr p H1 H3 → ∃ acc, H3 D = some (.lst acc) ∧ acc.length < sizeLine ∧
          ∃ l' : List (Addr × Rat), l'.length = i + 1 ∧ (upd H3 D (.lst (acc ++ [V.ref a]))) D = some (.lst (l'.map fun z => V.ref z.1)) ∧ (∀ z ∈ l', FrQ K (upd H3 D (.lst (acc ++ [V.ref a]))) z.1 z.2 ∧ Sz 133 z.2 ∧ 0 ≤ z.2) ∧ BoxAt (upd H3 D (.lst (acc ++ [V.ref a]))) p (n + 6 * (i + 1)) ∧ Fr p H (upd H3 D (.lst (acc ++ [V.ref a]))) := by
        intro a r H3 ha za na B3 F3
        have hd3 := F3 _ _ hne hd
        refine ⟨_, hd3, by rw [List.length_map]; exact small' (by omega), l ++ [(a, r)], by rw [List.length_append, ll] <;> rfl, by rw [upd_same, List.map_append] <;> rfl, fun z hz => ?_, (B3.upd hne).mono (by omega), Fr.put' (F.trans F3) hD⟩
        · rcases List.mem_append.mp hz with h | h
          · obtain ⟨k1, k2, k3⟩ := L z h
            exact ⟨sqT_frL (k1.fr B F3) hd3 fr_upd, k2, k3⟩
          · obtain rfl := List.mem_singleton.mp h
            exact ⟨sqT_frL ha hd3 fr_upd, za, na⟩
      refine ite2 (fun c => ?_) (fun c => ?_)
      · refine ⟨_, rfl, p, false, n + 6 * i + 1, rfl, B2, by omega, fun a r H3 za na ha B3 F3 => ?_⟩
        exact fin a r H3 ha za (na rfl) B3 (F2.trans F3)
      · refine ⟨rfl, fun a H3 s3 n3 h3 => ?_⟩
        exact fin a ((0 : Int) : Rat) H3 (.int h3) (Sz.int (by decide) (by decide)) (cast_nn (by decide)) ((B2.same s3).mono (by omega)) (F2.trans (.of s3))
    · obtain ⟨l, ll, hd, L, B, F⟩ := z
      match l, ll, hd, L with
      | [(a, s1), (b, w1)], _, hd, L =>
        have L1 := L (a, s1) List.mem_cons_self
        have L2 := L (b, w1) (List.mem_cons_of_mem _ List.mem_cons_self)
        refine ⟨D, _, rfl, .inl ⟨SqL.of hd, fun t ht => ?_⟩⟩
        have sm := same_new (o := .tup [.ref a, .ref b]) ht
        exact q t s1 w1 _ L1.2.1 L2.2.1 L1.2.2 L2.2.2 (.new upd_same (L1.1.same sm) (L2.1.same sm)) (B.same sm) (F.trans (.of sm))

end
end KR
namespace KR
open PySem PySem.Spec PyProof.Rows L2
section
variable {P : Program} {w : World} {K : PySem.W.Frag} {mg : Str → Option Value} {base : Heap}
def sp_l_mark (K : PySem.W.Frag) : Sp := fun vs H Q _ => ∃ (p : Addr) (n : Nat), vs = [.ref p] ∧ BoxAt H p n ∧ n ≤ 999999000 ∧ ∀ (a : Addr) (q : Rat) (H' : Hp), Sz 133 q → 0 < q → q < 1 → FrQ K H' a q → BoxAt H' p (n + 5) → Fr p H H' → Q (.ref a) H'
theorem ok_l_mark (T : All K mg) : FnOk P w K mg base CX0 2 T.f_l_mark T.fd_l_mark ["_law_box_here"] (sp_l_mark K) := by
  refine T.d_l_mark.fn.ok sc_l_mark (fun vs H Q E h => ?_) (fun cdv A outer s H vs Q E hr h => ?_)
  · obtain ⟨p, n, rfl, _⟩ := h
    rfl
  · obtain ⟨p, n, rfl, hB, hn, q⟩ := h
    refine ⟨_, (pss_cons (ps_set (i := 1) sc_l_mark.nd rfl (by first | exact Or.inl rfl | exact Or.inr rfl) (pe_op op_add pe_int (pe_call (ok_l_take T) hr (by rfl) T.d_l_take.mg T.d_l_take.fn.kp T.d_l_take.b .nil pass0 (pa_cons (pv 0) (pa_cons (pe_ix (ixL (K := K) rfl) (pe_lstI (pa_cons pe_int (pa_cons pe_int (pa_cons pe_int (pa_cons (pe_op op_sub (pe_op op_pow pe_int pe_int) pe_int) pa_nil))))) (pe_call (ok_l_take T) hr (by rfl) T.d_l_take.mg T.d_l_take.fn.kp T.d_l_take.b .nil pass0 (pa_cons (pv 0) (pa_cons pe_int pa_nil))) (fun _ _ => rfl)) pa_nil)))))
      (pss_one (ps_ret (pe_call (ok_l_low T) hr (by rfl) T.d_l_low.mg T.d_l_low.fn.kp T.d_l_low.b .nil pass0 (pa_cons (pe_op op_add pe_int (pe_call (ok_l_take T) hr (by rfl) T.d_l_take.mg T.d_l_take.fn.kp T.d_l_take.b .nil pass0 (pa_cons (pv 0) (pa_cons (pe_op op_sub (pv 1) pe_int) pa_nil)))) (pa_cons (pv 1) pa_nil)))))), ?_⟩
    refine ⟨_, rfl, _, _, rfl, rfl, ⟨by decide, by decide, by decide⟩, _, _, rfl, rfl, rfl, fun l H1 s1 hl h1 => ?_⟩
    refine ⟨_, rfl, p, 4, n, rfl, hB.same s1, by omega, by decide, by decide, fun way H2 w0 w1 B1 F1 => ?_⟩
    have hne : l ≠ p := hB.new hl
    obtain ⟨m, em, h0, h9⟩ : ∃ m : Int, atI ([.int 11, .int 59, .int 59, .int (10 ^ (40 : Int).toNat - 100)] : List V) way = some (.int m) ∧ 0 < m ∧ m ≤ 10 ^ 40 - 100 := by
      have w2 : way = 0 ∨ way = 1 ∨ way = 2 ∨ way = 3 := by omega
      rcases w2 with e | e | e | e <;> subst e
      · exact ⟨_, rfl, by decide, by decide⟩
      · exact ⟨_, rfl, by decide, by decide⟩
      · exact ⟨_, rfl, by decide, by decide⟩
      · exact ⟨_, rfl, by decide, by decide⟩
    have h9' : m.natAbs < 2 ^ 200 := by omega
    refine ⟨l, _, way, _, rfl, rfl, SqL.of (F1 _ _ hne h1), em, ?_⟩
    refine ⟨p, m, n + 1, rfl, B1, by omega, h0, h9', fun z H3 z0 z1 B2 F2 => ?_⟩
    refine ⟨_, _, rfl, rfl, ?_⟩
    refine ⟨_, rfl, _, rfl, _, _, rfl, rfl, p, _, n + 2, rfl, B2, by omega, by omega, by omega, fun y H4 y0 y1 B3 F3 => ?_⟩
    refine ⟨_, _, rfl, rfl, _, rfl, ?_⟩
    refine ⟨_, _, 133, rfl, by omega, b133 (by omega), b133 (by omega), by decide, fun a H5 s5 n5 h5 k5 => ?_⟩
    exact q a _ _ k5 (rq_pos (by omega) (by omega)) (rq_lt_one (by omega) (by omega)) h5 ((B3.same s5).mono (by omega)) ((((Fr.of s1).trans F1).trans F2).trans (F3.trans (.of s5)))

end
end KR
namespace KR
open PySem PySem.Spec PyProof.Rows L2
section
variable {P : Program} {w : World} {K : PySem.W.Frag} {mg : Str → Option Value} {base : Heap}
theorem ok_l_is_less (T : All K mg) : FnOk P w K mg base CX0 1 T.f_l_is_less T.fd_l_is_less ["_law_one", "_law_other"] (sp_less K) := by
  refine T.d_l_is_less.fn.ok sc_l_is_less (fun vs H Q E h => ?_) (fun cdv A outer s H vs Q E hr h => ?_)
  · obtain ⟨x, y, p, q, rfl, _⟩ := h
    rfl
  · obtain ⟨x, y, p, q, rfl, hx, hy, zp, zq, k⟩ := h
    have hx' : SqT K H x [.int p.num, .int (p.den : Int)] := hx
    have hy' : SqT K H y [.int q.num, .int (q.den : Int)] := hy
    refine ⟨_, (pss_one (ps_ret (pe_cmpR op_lt (pe_op op_mulX (pe_ix (ixT (K := K) rfl) (pv 0) pe_int (fun _ _ => rfl)) (pe_ix (ixT (K := K) rfl) (pv 1) pe_int (fun _ _ => rfl))) (pe_op op_mulX (pe_ix (ixT (K := K) rfl) (pv 1) pe_int (fun _ _ => rfl)) (pe_ix (ixT (K := K) rfl) (pv 0) pe_int (fun _ _ => rfl))) (nomark _)))), ?_⟩
    obtain ⟨a1, a2⟩ := zp
    obtain ⟨b1, b2⟩ := zq
    refine ⟨_, rfl, x, _, 0, _, rfl, rfl, hx', at0, _, rfl, y, _, 1, _, rfl, rfl, hy', at1, _, _, rfl, rfl, mulZ a1 b2 (by omega), ?_⟩
    refine ⟨_, rfl, y, _, 0, _, rfl, rfl, hy', at0, _, rfl, x, _, 1, _, rfl, rfl, hx', at1, _, _, rfl, rfl, mulZ b1 a2 (by omega), _, _, rfl, rfl, ?_⟩
    have e : decide (p.num * (q.den : Int) < q.num * (p.den : Int)) = decide (p < q) := by
      rw [decide_eq_decide]
      exact lt_cross p q
    show Q (.bl (decide (p.num * (q.den : Int) < q.num * (p.den : Int)))) H
    rw [e]
    exact k

end
end KR
namespace KR
open PySem PySem.Spec PyProof.Rows L2
section
variable {P : Program} {w : World} {K : PySem.W.Frag} {mg : Str → Option Value} {base : Heap}
def sp_l_is_small (K : PySem.W.Frag) : Sp := fun vs H Q _ => ∃ (x : Addr) (q : Rat), vs = [.ref x] ∧ FrQ K H x q ∧ ∀ b : Bool, (b = true → Sz 133 q) → Q (.bl b) H
theorem ok_l_is_small (T : All K mg) : FnOk P w K mg base CX0 1 T.f_l_is_small T.fd_l_is_small ["_law_one"] (sp_l_is_small K) := by
  refine T.d_l_is_small.fn.ok sc_l_is_small (fun vs H Q E h => ?_) (fun cdv A outer s H vs Q E hr h => ?_)
  · obtain ⟨x, q, rfl, _⟩ := h
    rfl
  · obtain ⟨x, q, rfl, hx, k⟩ := h
    have hx' : SqT K H x [.int q.num, .int (q.den : Int)] := hx
    refine ⟨_, (pss_one (ps_ret (pe_and (pe_cmpR op_lt (pe_callB call_abs (by rfl) T.b_abs (by decide +kernel) (pa_cons (pe_ix (ixT (K := K) rfl) (pv 0) pe_int (fun _ _ => rfl)) pa_nil)) (pe_op op_pow pe_int pe_int) (nomark _)) (pe_one (pe_cmpR op_lt (pe_ix (ixT (K := K) rfl) (pv 0) pe_int (fun _ _ => rfl)) (pe_op op_pow pe_int pe_int) (nomark _)))))), ?_⟩
    have pw : CPow 10 40 := ⟨by decide, by decide, by decide⟩
    refine ⟨_, rfl, x, _, 0, _, rfl, rfl, hx', at0, _, rfl, _, _, rfl, rfl, pw, _, _, rfl, rfl, _, rfl, ite2 (fun c => ?_) (fun c => ?_)⟩
    · have c1 : (if q.num < 0 then -q.num else q.num) < 10 ^ 40 := of_decide_eq_true c
      refine ⟨_, rfl, x, _, 1, _, rfl, rfl, hx', at1, _, _, rfl, rfl, pw, _, _, rfl, rfl, ?_⟩
      refine k _ fun d => ?_
      have d1 : (q.den : Int) < 10 ^ 40 := of_decide_eq_true d
      have e : (10 : Int) ^ 40 < 2 ^ 133 := by decide
      refine ⟨?_, ?_⟩
      · split at c1 <;> omega
      · omega
    · exact k _ fun d => nomatch d

end
end KR
namespace KR
open PySem PySem.Spec PyProof.Rows L2
section
variable {P : Program} {w : World} {K : PySem.W.Frag} {mg : Str → Option Value} {base : Heap}
theorem fdivs {t b : Int} (hb : b ≠ 0) : (b < 0 → t.fdiv (-((Nat.gcd t.natAbs b.natAbs : Nat) : Int)) = (low t b).1 ∧ b.fdiv (-((Nat.gcd t.natAbs b.natAbs : Nat) : Int)) = (low t b).2) ∧
    (¬ b < 0 → t.fdiv ((Nat.gcd t.natAbs b.natAbs : Nat) : Int) = (low t b).1 ∧ b.fdiv ((Nat.gcd t.natAbs b.natAbs : Nat) : Int) = (low t b).2) := by
  have d1 : ((Nat.gcd t.natAbs b.natAbs : Nat) : Int) ∣ t := Int.ofNat_dvd_left.mpr (Nat.gcd_dvd_left _ _)
  have d2 : ((Nat.gcd t.natAbs b.natAbs : Nat) : Int) ∣ b := Int.ofNat_dvd_left.mpr (Nat.gcd_dvd_right _ _)
  have hg : 0 < Nat.gcd t.natAbs b.natAbs := Nat.gcd_pos_of_pos_right _ (by omega)
  unfold low
  generalize Nat.gcd t.natAbs b.natAbs = g at *
  refine ⟨fun c => ?_, fun c => ?_⟩
  · rw [fdiv_neg d1, fdiv_neg d2, if_pos c]
    refine ⟨rfl, ?_⟩
    have e : (b.natAbs : Int) = -b := by omega
    show b / (g : Int) * -1 = (b.natAbs : Int) / (g : Int)
    rw [e]
    obtain ⟨z, rfl⟩ := d2
    rw [Int.mul_ediv_cancel_left _ (by omega), ← Int.mul_neg, Int.mul_ediv_cancel_left _ (by omega)]
    omega
  · rw [if_neg c, Int.fdiv_eq_ediv_of_nonneg _ (by omega), Int.fdiv_eq_ediv_of_nonneg _ (by omega)]
    have e : (b.natAbs : Int) = b := by omega
    refine ⟨by omega, ?_⟩
    show b / (g : Int) = (b.natAbs : Int) / (g : Int)
    rw [e]
theorem ok0_p_frac_of (T : All K mg) : FnOk P w K mg base CX0 1 T.f_p_frac_of T.fd_p_frac_of ["top", "bottom"] sp_low := by
  refine T.d_p_frac_of.fn.ok sc_p_frac_of (fun vs H Q E h => ?_) (fun cdv A outer s H vs Q E hr h => ?_)
  · obtain ⟨t, b, rfl, _⟩ := h
    rfl
  · obtain ⟨t, b, rfl, hb, ht, hb2, q⟩ := h
    refine ⟨_, (pss_cons (ps_set (i := 2) sc_p_frac_of.nd rfl (by first | exact Or.inl rfl | exact Or.inr rfl) (pe_callBfun cr_gcd (by rfl) T.m_gcd (pa_cons (pv 0) (pa_cons (pv 1) pa_nil))))
      (pss_cons (ps_if (pt_cmpR op_lt (pv 1) pe_int (nomark _)) (pss_one (ps_set (i := 2) sc_p_frac_of.nd rfl (by first | exact Or.inl rfl | exact Or.inr rfl) (pe_un un_neg (pv 2)))) pss_nil)
      (pss_one (ps_ret (pe_tupI (pa_cons (pe_op op_fdivX (pv 0) (pv 2)) (pa_cons (pe_op op_fdivX (pv 1) (pv 2)) pa_nil))))))), ?_⟩
    have hg : 0 < Nat.gcd t.natAbs b.natAbs := Nat.gcd_pos_of_pos_right _ (by omega)
    have hg2 : Nat.gcd t.natAbs b.natAbs < 2 ^ 2000 := Nat.lt_of_le_of_lt (Nat.le_of_dvd (by omega) (Nat.gcd_dvd_right _ _)) hb2
    obtain ⟨k1, k2⟩ := fdivs (t := t) hb
    refine ⟨_, rfl, _, rfl, _, _, rfl, ?_⟩
    refine ⟨_, rfl, _, _, rfl, rfl, _, rfl, ite2 (fun c => ?_) (fun c => ?_)⟩
    · have c1 : b < 0 := of_decide_eq_true c
      have hd : ∀ z : Int, DivOk z (-((Nat.gcd t.natAbs b.natAbs : Nat) : Int)) := fun z => divOk (b := 2000) (by omega) (by rw [Int.natAbs_neg, Int.natAbs_natCast]; exact hg2) (by decide) (by decide)
      refine ⟨_, rfl, _, rfl, _, rfl, _, rfl, _, _, rfl, rfl, hd _, _, rfl, _, rfl, _, _, rfl, rfl, hd _, rfl, fun p H1 s1 hp h1 => ?_⟩
      refine q p H1 s1 hp ?_
      rw [← (k1 c1).1, ← (k1 c1).2]
      exact h1
    · have c1 : ¬ b < 0 := of_decide_eq_false (Bool.eq_false_iff.mpr c)
      have hd : ∀ z : Int, DivOk z ((Nat.gcd t.natAbs b.natAbs : Nat) : Int) := fun z => divOk (b := 2000) (by omega) (by rw [Int.natAbs_natCast]; exact hg2) (by decide) (by decide)
      refine ⟨_, rfl, _, rfl, _, _, rfl, rfl, hd _, _, rfl, _, rfl, _, _, rfl, rfl, hd _, rfl, fun p H1 s1 hp h1 => ?_⟩
      refine q p H1 s1 hp ?_
      rw [← (k2 c1).1, ← (k2 c1).2]
      exact h1
theorem ok_p_frac_of (T : All K mg) : FnOk P w K mg base CX0 1 T.f_p_frac_of T.fd_p_frac_of ["top", "bottom"] (sp_lowQ K) := (ok0_p_frac_of T).imp fun _ _ _ _ h => lowQ h

end
end KR
namespace KR
open PySem PySem.Spec PyProof.Rows L2
section
variable {P : Program} {w : World} {K : PySem.W.Frag} {mg : Str → Option Value} {base : Heap}
theorem ok_p_sum_of (T : All K mg) : FnOk P w K mg base CX0 2 T.f_p_sum_of T.fd_p_sum_of ["one", "other"] (sp_q2 K (fun p q => p + q) (fun _ q => True)) := by
  refine T.d_p_sum_of.fn.ok sc_p_sum_of (fun vs H Q E h => ?_) (fun cdv A outer s H vs Q E hr h => ?_)
  · obtain ⟨x, y, p, q, m, n, rfl, _⟩ := h
    rfl
  · obtain ⟨x, y, p, q, m, n, rfl, hx, hy, zp, zq, hmn, hok, k⟩ := h
    have hx' : SqT K H x [.int p.num, .int (p.den : Int)] := hx
    have hy' : SqT K H y [.int q.num, .int (q.den : Int)] := hy
    refine ⟨_, (pss_one (ps_ret (pe_call (ok_p_frac_of T) hr (by rfl) T.d_p_frac_of.mg T.d_p_frac_of.fn.kp T.d_p_frac_of.b .nil pass0 (pa_cons (pe_op op_add (pe_op op_mulX (pe_ix (ixT (K := K) rfl) (pv 0) pe_int (fun _ _ => rfl)) (pe_ix (ixT (K := K) rfl) (pv 1) pe_int (fun _ _ => rfl))) (pe_op op_mulX (pe_ix (ixT (K := K) rfl) (pv 1) pe_int (fun _ _ => rfl)) (pe_ix (ixT (K := K) rfl) (pv 0) pe_int (fun _ _ => rfl)))) (pa_cons (pe_op op_mulX (pe_ix (ixT (K := K) rfl) (pv 0) pe_int (fun _ _ => rfl)) (pe_ix (ixT (K := K) rfl) (pv 1) pe_int (fun _ _ => rfl))) pa_nil))))), ?_⟩
    obtain ⟨a1, a2⟩ := zp
    obtain ⟨b1, b2⟩ := zq
    have hp := den_ne' p
    have hq := den_ne' q
    refine ⟨_, rfl, x, _, 0, _, rfl, rfl, hx', at0, _, rfl, y, _, 1, _, rfl, rfl, hy', at1, _, _, rfl, rfl, mulZ a1 b2 (by omega), _, rfl, y, _, 0, _, rfl, rfl, hy', at0, _, rfl, x, _, 1, _, rfl, rfl, hx', at1, _, _, rfl, rfl, mulZ b1 a2 (by omega), _, _, rfl, rfl, ?_⟩
    refine ⟨_, rfl, x, _, 1, _, rfl, rfl, hx', at1, _, rfl, y, _, 1, _, rfl, rfl, hy', at1, _, _, rfl, rfl, mulZ a2 b2 (by omega), ?_⟩
    refine ⟨_, _, m + n + 1, rfl, Int.mul_ne_zero hp hq, lt_up (add_lt (wide_lt a1 b2) (lt_up (wide_lt b1 a2) (by omega : n + m ≤ m + n))) (by omega), lt_up (wide_lt a2 b2) (by omega), by omega, ?_⟩
    intro z H' s1 n1 h1 s2
    rw [rq_add] at h1 s2
    exact k z H' s1 n1 h1 s2

end
end KR
namespace KR
open PySem PySem.Spec PyProof.Rows L2
section
variable {P : Program} {w : World} {K : PySem.W.Frag} {mg : Str → Option Value} {base : Heap}
theorem ok_p_difference (T : All K mg) : FnOk P w K mg base CX0 2 T.f_p_difference T.fd_p_difference ["one", "other"] (sp_q2 K (fun p q => p - q) (fun _ q => True)) := by
  refine T.d_p_difference.fn.ok sc_p_difference (fun vs H Q E h => ?_) (fun cdv A outer s H vs Q E hr h => ?_)
  · obtain ⟨x, y, p, q, m, n, rfl, _⟩ := h
    rfl
  · obtain ⟨x, y, p, q, m, n, rfl, hx, hy, zp, zq, hmn, hok, k⟩ := h
    have hx' : SqT K H x [.int p.num, .int (p.den : Int)] := hx
    have hy' : SqT K H y [.int q.num, .int (q.den : Int)] := hy
    refine ⟨_, (pss_one (ps_ret (pe_call (ok_p_frac_of T) hr (by rfl) T.d_p_frac_of.mg T.d_p_frac_of.fn.kp T.d_p_frac_of.b .nil pass0 (pa_cons (pe_op op_sub (pe_op op_mulX (pe_ix (ixT (K := K) rfl) (pv 0) pe_int (fun _ _ => rfl)) (pe_ix (ixT (K := K) rfl) (pv 1) pe_int (fun _ _ => rfl))) (pe_op op_mulX (pe_ix (ixT (K := K) rfl) (pv 1) pe_int (fun _ _ => rfl)) (pe_ix (ixT (K := K) rfl) (pv 0) pe_int (fun _ _ => rfl)))) (pa_cons (pe_op op_mulX (pe_ix (ixT (K := K) rfl) (pv 0) pe_int (fun _ _ => rfl)) (pe_ix (ixT (K := K) rfl) (pv 1) pe_int (fun _ _ => rfl))) pa_nil))))), ?_⟩
    obtain ⟨a1, a2⟩ := zp
    obtain ⟨b1, b2⟩ := zq
    have hp := den_ne' p
    have hq := den_ne' q
    refine ⟨_, rfl, x, _, 0, _, rfl, rfl, hx', at0, _, rfl, y, _, 1, _, rfl, rfl, hy', at1, _, _, rfl, rfl, mulZ a1 b2 (by omega), _, rfl, y, _, 0, _, rfl, rfl, hy', at0, _, rfl, x, _, 1, _, rfl, rfl, hx', at1, _, _, rfl, rfl, mulZ b1 a2 (by omega), _, _, rfl, rfl, ?_⟩
    refine ⟨_, rfl, x, _, 1, _, rfl, rfl, hx', at1, _, rfl, y, _, 1, _, rfl, rfl, hy', at1, _, _, rfl, rfl, mulZ a2 b2 (by omega), ?_⟩
    refine ⟨_, _, m + n + 1, rfl, Int.mul_ne_zero hp hq, lt_up (sub_lt (wide_lt a1 b2) (lt_up (wide_lt b1 a2) (by omega : n + m ≤ m + n))) (by omega), lt_up (wide_lt a2 b2) (by omega), by omega, ?_⟩
    intro z H' s1 n1 h1 s2
    rw [rq_sub] at h1 s2
    exact k z H' s1 n1 h1 s2

end
end KR
namespace KR
open PySem PySem.Spec PyProof.Rows L2
section
variable {P : Program} {w : World} {K : PySem.W.Frag} {mg : Str → Option Value} {base : Heap}
theorem ok_p_product (T : All K mg) : FnOk P w K mg base CX0 2 T.f_p_product T.fd_p_product ["one", "other"] (sp_q2 K (fun p q => p * q) (fun _ q => True)) := by
  refine T.d_p_product.fn.ok sc_p_product (fun vs H Q E h => ?_) (fun cdv A outer s H vs Q E hr h => ?_)
  · obtain ⟨x, y, p, q, m, n, rfl, _⟩ := h
    rfl
  · obtain ⟨x, y, p, q, m, n, rfl, hx, hy, zp, zq, hmn, hok, k⟩ := h
    have hx' : SqT K H x [.int p.num, .int (p.den : Int)] := hx
    have hy' : SqT K H y [.int q.num, .int (q.den : Int)] := hy
    refine ⟨_, (pss_one (ps_ret (pe_call (ok_p_frac_of T) hr (by rfl) T.d_p_frac_of.mg T.d_p_frac_of.fn.kp T.d_p_frac_of.b .nil pass0 (pa_cons (pe_op op_mulX (pe_ix (ixT (K := K) rfl) (pv 0) pe_int (fun _ _ => rfl)) (pe_ix (ixT (K := K) rfl) (pv 1) pe_int (fun _ _ => rfl))) (pa_cons (pe_op op_mulX (pe_ix (ixT (K := K) rfl) (pv 0) pe_int (fun _ _ => rfl)) (pe_ix (ixT (K := K) rfl) (pv 1) pe_int (fun _ _ => rfl))) pa_nil))))), ?_⟩
    obtain ⟨a1, a2⟩ := zp
    obtain ⟨b1, b2⟩ := zq
    have hp := den_ne' p
    have hq := den_ne' q
    refine ⟨_, rfl, x, _, 0, _, rfl, rfl, hx', at0, _, rfl, y, _, 0, _, rfl, rfl, hy', at0, _, _, rfl, rfl, mulZ a1 b1 (by omega), ?_⟩
    refine ⟨_, rfl, x, _, 1, _, rfl, rfl, hx', at1, _, rfl, y, _, 1, _, rfl, rfl, hy', at1, _, _, rfl, rfl, mulZ a2 b2 (by omega), ?_⟩
    refine ⟨_, _, m + n + 1, rfl, Int.mul_ne_zero hp hq, lt_up (wide_lt a1 b1) (by omega), lt_up (wide_lt a2 b2) (by omega), by omega, ?_⟩
    intro z H' s1 n1 h1 s2
    rw [rq_mul] at h1 s2
    exact k z H' s1 n1 h1 s2

end
end KR
namespace KR
open PySem PySem.Spec PyProof.Rows L2
section
variable {P : Program} {w : World} {K : PySem.W.Frag} {mg : Str → Option Value} {base : Heap}
theorem ok_p_quotient (T : All K mg) : FnOk P w K mg base CX0 2 T.f_p_quotient T.fd_p_quotient ["one", "other"] (sp_q2 K (fun p q => p / q) (fun _ q => q ≠ 0)) := by
  refine T.d_p_quotient.fn.ok sc_p_quotient (fun vs H Q E h => ?_) (fun cdv A outer s H vs Q E hr h => ?_)
  · obtain ⟨x, y, p, q, m, n, rfl, _⟩ := h
    rfl
  · obtain ⟨x, y, p, q, m, n, rfl, hx, hy, zp, zq, hmn, hok, k⟩ := h
    have hx' : SqT K H x [.int p.num, .int (p.den : Int)] := hx
    have hy' : SqT K H y [.int q.num, .int (q.den : Int)] := hy
    refine ⟨_, (pss_one (ps_ret (pe_call (ok_p_frac_of T) hr (by rfl) T.d_p_frac_of.mg T.d_p_frac_of.fn.kp T.d_p_frac_of.b .nil pass0 (pa_cons (pe_op op_mulX (pe_ix (ixT (K := K) rfl) (pv 0) pe_int (fun _ _ => rfl)) (pe_ix (ixT (K := K) rfl) (pv 1) pe_int (fun _ _ => rfl))) (pa_cons (pe_op op_mulX (pe_ix (ixT (K := K) rfl) (pv 0) pe_int (fun _ _ => rfl)) (pe_ix (ixT (K := K) rfl) (pv 1) pe_int (fun _ _ => rfl))) pa_nil))))), ?_⟩
    obtain ⟨a1, a2⟩ := zp
    obtain ⟨b1, b2⟩ := zq
    have hp := den_ne' p
    have hq := den_ne' q
    refine ⟨_, rfl, x, _, 0, _, rfl, rfl, hx', at0, _, rfl, y, _, 1, _, rfl, rfl, hy', at1, _, _, rfl, rfl, mulZ a1 b2 (by omega), ?_⟩
    refine ⟨_, rfl, x, _, 1, _, rfl, rfl, hx', at1, _, rfl, y, _, 0, _, rfl, rfl, hy', at0, _, _, rfl, rfl, mulZ a2 b1 (by omega), ?_⟩
    refine ⟨_, _, m + n + 1, rfl, Int.mul_ne_zero hp (num_ne hok), lt_up (wide_lt a1 b2) (by omega), lt_up (wide_lt a2 b1) (by omega), by omega, ?_⟩
    intro z H' s1 n1 h1 s2
    rw [rq_div] at h1 s2
    exact k z H' s1 n1 h1 s2

end
end KR
namespace KR
open PySem PySem.Spec PyProof.Rows L2
section
variable {P : Program} {w : World} {K : PySem.W.Frag} {mg : Str → Option Value} {base : Heap}
def sp_p_is_number : Sp := fun vs H Q _ => ∃ n : Int, vs = [.int n] ∧ Q (.bl true) H
theorem ok_p_is_number (T : All K mg) : FnOk P w K mg base CX0 1 T.f_p_is_number T.fd_p_is_number ["thing"] sp_p_is_number := by
  refine T.d_p_is_number.fn.ok sc_p_is_number (fun vs H Q E h => ?_) (fun cdv A outer s H vs Q E hr h => ?_)
  · obtain ⟨n, rfl, _⟩ := h
    rfl
  · obtain ⟨n, rfl, q⟩ := h
    refine ⟨_, (pss_one (ps_ret (pe_and (pe_callB (isiK (K := K) rfl) (by rfl) T.b_isinstance (by decide +kernel) (pa_cons (pv 0) (pa_cons (pe_bltn (v := .ty "int") (by rfl) T.b_int (by decide +kernel) rfl) pa_nil))) (pe_one (pe_not (pe_callB (isiK (K := K) rfl) (by rfl) T.b_isinstance (by decide +kernel) (pa_cons (pv 0) (pa_cons (pe_bltn (v := .ty "bool") (by rfl) T.b_bool (by decide +kernel) rfl) pa_nil)))))))), ?_⟩
    refine ⟨_, rfl, _, _, _, _, _, rfl, .ty _, .base (.int n), kit_ty (show kitB "int" "int" = some true by decide +kernel), _, rfl, ?_⟩
    refine iteT ?_
    refine ⟨_, rfl, _, _, _, _, _, rfl, .ty _, .base (.int n), kit_ty (show kitB "int" "bool" = some false by decide +kernel), _, rfl, ?_⟩
    exact q

end
end KR
namespace KR
open PySem PySem.Spec PyProof.Rows L2
section
variable {P : Program} {w : World} {K : PySem.W.Frag} {mg : Str → Option Value} {base : Heap}
def sp_p_is_frac (K : PySem.W.Frag) : Sp := fun vs H Q _ => ∃ (x : Addr) (a b : Int), vs = [.ref x] ∧ SqT K H x [.int a, .int b] ∧ IsLow a b ∧ Q (.bl true) H
theorem ok_p_is_frac (T : All K mg) : FnOk P w K mg base CX0 2 T.f_p_is_frac T.fd_p_is_frac ["thing"] (sp_p_is_frac K) := by
  refine T.d_p_is_frac.fn.ok sc_p_is_frac (fun vs H Q E h => ?_) (fun cdv A outer s H vs Q E hr h => ?_)
  · obtain ⟨x, a, b, rfl, _⟩ := h
    rfl
  · obtain ⟨x, a, b, rfl, hx, lo, q⟩ := h
    refine ⟨_, (pss_cons (ps_if (PW.pt (pw_or (pt_not (pt_val (pe_callB (isiK (K := K) rfl) (by rfl) T.b_isinstance (by decide +kernel) (pa_cons (pv 0) (pa_cons (pe_bltn (v := .ty "tuple") (by rfl) T.b_tuple (by decide +kernel) rfl) pa_nil))))) (pw_or1 (pt_cmpR op_ne (pe_callB (lenQ (K := K) rfl) (by rfl) T.b_len PySem.boot_len (pa_cons (pv 0) pa_nil)) pe_int (nomark _))))) (pss_one (ps_ret pe_bl)) pss_nil)
      (pss_cons (ps_asg (pv 0) (pg_tupK (K := K) rfl rfl (pgs_cons (pg_name (i := 1) sc_p_is_frac.nd rfl (by first | exact Or.inl rfl | exact Or.inr rfl)) (pgs_cons (pg_name (i := 2) sc_p_is_frac.nd rfl (by first | exact Or.inl rfl | exact Or.inr rfl)) pgs_nil))))
      (pss_cons (ps_if (PW.pt (pw_or (pt_not (pt_val (pe_call (ok_p_is_number T) hr (by rfl) T.d_p_is_number.mg T.d_p_is_number.fn.kp T.d_p_is_number.b .nil pass0 (pa_cons (pv 1) pa_nil)))) (pw_or1 (pt_not (pt_val (pe_call (ok_p_is_number T) hr (by rfl) T.d_p_is_number.mg T.d_p_is_number.fn.kp T.d_p_is_number.b .nil pass0 (pa_cons (pv 2) pa_nil))))))) (pss_one (ps_ret pe_bl)) pss_nil)
      (pss_one (ps_ret (pe_and (pe_cmpR op_gt (pv 2) pe_int (nomark _)) (pe_one (pe_cmpR op_eq (pe_callBfun cr_gcd (by rfl) T.m_gcd (pa_cons (pv 1) (pa_cons (pv 2) pa_nil))) pe_int (nomark _))))))))), ?_⟩
    refine ⟨_, rfl, _, _, _, _, _, rfl, .ty _, sqT_ty hx, kit_ty (show kitB "tuple" "tuple" = some true by decide +kernel), _, rfl, ?_⟩
    refine iteF ?_
    refine ⟨_, rfl, x, _, rfl, .inr hx, rfl, _, rfl, ?_⟩
    refine ite_nF rfl ?_
    refine ⟨_, rfl, x, _, rfl, hx, rfl, _, _, rfl, _, _, rfl, rfl, ?_⟩
    refine ⟨_, rfl, a, rfl, _, rfl, iteF ?_⟩
    refine ⟨_, rfl, b, rfl, _, rfl, iteF ?_⟩
    refine ⟨_, rfl, _, _, rfl, rfl, _, rfl, ?_⟩
    refine ite_bT (decide_eq_true lo.pos) ?_
    refine ⟨_, rfl, _, rfl, _, _, rfl, rfl, ?_⟩
    have e : decide (V.int ((Nat.gcd a.natAbs b.natAbs : Nat) : Int) = V.int 1) = true := by
      rw [lo.cop] <;> rfl
    rw [e]
    exact q

end
end KR
namespace KR
open PySem PySem.Spec PyProof.Rows L2
section
variable {P : Program} {w : World} {K : PySem.W.Frag} {mg : Str → Option Value} {base : Heap}
theorem ok_p_is_lesser (T : All K mg) : FnOk P w K mg base CX0 3 T.f_p_is_lesser T.fd_p_is_lesser ["one", "other"] (sp_less K) := by
  refine T.d_p_is_lesser.fn.ok sc_p_is_lesser (fun vs H Q E h => ?_) (fun cdv A outer s H vs Q E hr h => ?_)
  · obtain ⟨x, y, p, q, rfl, _⟩ := h
    rfl
  · obtain ⟨x, y, p, q, rfl, hx, hy, zp, zq, k⟩ := h
    have hx' : SqT K H x [.int p.num, .int (p.den : Int)] := hx
    have hy' : SqT K H y [.int q.num, .int (q.den : Int)] := hy
    refine ⟨_, (pss_one (ps_ret (pe_and (pe_call (ok_p_is_frac T) hr (by rfl) T.d_p_is_frac.mg T.d_p_is_frac.fn.kp T.d_p_is_frac.b .nil pass0 (pa_cons (pv 1) pa_nil)) (pe_one (pe_cmpR op_lt (pe_op op_mulX (pe_ix (ixT (K := K) rfl) (pv 0) pe_int (fun _ _ => rfl)) (pe_ix (ixT (K := K) rfl) (pv 1) pe_int (fun _ _ => rfl))) (pe_op op_mulX (pe_ix (ixT (K := K) rfl) (pv 1) pe_int (fun _ _ => rfl)) (pe_ix (ixT (K := K) rfl) (pv 0) pe_int (fun _ _ => rfl))) (nomark _)))))), ?_⟩
    refine ⟨_, rfl, y, q.num, (q.den : Int), rfl, hy, rat_low q, true, rfl, ite_bT rfl ?_⟩
    obtain ⟨a1, a2⟩ := zp
    obtain ⟨b1, b2⟩ := zq
    refine ⟨_, rfl, x, _, 0, _, rfl, rfl, hx', at0, _, rfl, y, _, 1, _, rfl, rfl, hy', at1, _, _, rfl, rfl, mulZ a1 b2 (by omega), ?_⟩
    refine ⟨_, rfl, y, _, 0, _, rfl, rfl, hy', at0, _, rfl, x, _, 1, _, rfl, rfl, hx', at1, _, _, rfl, rfl, mulZ b1 a2 (by omega), _, _, rfl, rfl, ?_⟩
    have e : decide (p.num * (q.den : Int) < q.num * (p.den : Int)) = decide (p < q) := by
      rw [decide_eq_decide]
      exact lt_cross p q
    show Q (.bl (decide (p.num * (q.den : Int) < q.num * (p.den : Int)))) H
    rw [e]
    exact k

end
end KR
namespace KR
open PySem PySem.Spec PyProof.Rows L2
section
variable {P : Program} {w : World} {K : PySem.W.Frag} {mg : Str → Option Value} {base : Heap}
theorem ok_p_water_at (T : All K mg) : FnOk P w K mg base CX0 2 T.f_p_water_at T.fd_p_water_at ["sugar", "mark"] (sp_q2 K (fun s u => wat s u) (fun _ u => u ≠ 0)) := by
  refine T.d_p_water_at.fn.ok sc_p_water_at (fun vs H Q E h => ?_) (fun cdv A outer s H vs Q E hr h => ?_)
  · obtain ⟨x, y, p, q, m, n, rfl, _⟩ := h
    rfl
  · obtain ⟨x, y, p, q, m, n, rfl, hx, hy, zp, zq, hmn, hok, k⟩ := h
    have hx' : SqT K H x [.int p.num, .int (p.den : Int)] := hx
    have hy' : SqT K H y [.int q.num, .int (q.den : Int)] := hy
    refine ⟨_, (pss_one (ps_ret (pe_call (ok_p_frac_of T) hr (by rfl) T.d_p_frac_of.mg T.d_p_frac_of.fn.kp T.d_p_frac_of.b .nil pass0 (pa_cons (pe_op op_mulX (pe_ix (ixT (K := K) rfl) (pv 0) pe_int (fun _ _ => rfl)) (pe_op op_sub (pe_ix (ixT (K := K) rfl) (pv 1) pe_int (fun _ _ => rfl)) (pe_ix (ixT (K := K) rfl) (pv 1) pe_int (fun _ _ => rfl)))) (pa_cons (pe_op op_mulX (pe_ix (ixT (K := K) rfl) (pv 0) pe_int (fun _ _ => rfl)) (pe_ix (ixT (K := K) rfl) (pv 1) pe_int (fun _ _ => rfl))) pa_nil))))), ?_⟩
    obtain ⟨a1, a2⟩ := zp
    obtain ⟨b1, b2⟩ := zq
    have hp := den_ne' p
    have hq := num_ne hok
    have z1 := sub_lt b2 b1
    refine ⟨_, rfl, x, _, 0, _, rfl, rfl, hx', at0, _, rfl, y, _, 1, _, rfl, rfl, hy', at1, _, rfl, y, _, 0, _, rfl, rfl, hy', at0, _, _, rfl, rfl, _, _, rfl, rfl, mulZ a1 z1 (by omega), ?_⟩
    refine ⟨_, rfl, x, _, 1, _, rfl, rfl, hx', at1, _, rfl, y, _, 0, _, rfl, rfl, hy', at0, _, _, rfl, rfl, mulZ a2 b1 (by omega), ?_⟩
    refine ⟨_, _, m + n + 1, rfl, Int.mul_ne_zero hp hq, lt_up (wide_lt a1 z1) (by omega), lt_up (wide_lt a2 b1) (by omega), by omega, ?_⟩
    intro z H' s1 n1 h1 s2
    rw [rq_wat _ _ hok] at h1 s2
    exact k z H' s1 n1 h1 s2

end
end KR
namespace KR
open PySem PySem.Spec PyProof.Rows L2
section
variable {P : Program} {w : World} {K : PySem.W.Frag} {mg : Str → Option Value} {base : Heap}
def sp_p_boiled_down (K : PySem.W.Frag) : Sp := fun vs H Q _ => ∃ (j mk hr : Addr) (f : Int) (s w u h : Rat) (a b c : Nat), vs = [.ref j, .int f, .ref mk, .ref hr] ∧ JuQ K H j s w ∧ FrQ K H mk u ∧ FrQ K H hr h ∧ Sz a s ∧ Sz b w ∧ Sz 133 u ∧ Sz c h ∧ f.natAbs < 2 ^ 14 ∧ u ≠ 0 ∧ a ≤ 500 ∧ b + c ≤ 1800 ∧
  ∀ z H', Same H H' → JuQ K H' z s (boil s w f u h) → Q (.ref z) H'
theorem ok_p_boiled_down (T : All K mg) : FnOk P w K mg base CX0 4 T.f_p_boiled_down T.fd_p_boiled_down ["juice", "fire", "mark", "hours"] (sp_p_boiled_down K) := by
  refine T.d_p_boiled_down.fn.ok sc_p_boiled_down (fun vs H Q E h => ?_) (fun cdv A outer s H vs Q E hr h => ?_)
  · obtain ⟨j, mk, hr, f, s, w, u, h, a, b, c, rfl, _⟩ := h
    rfl
  · obtain ⟨j, mk, hh, f, s, w, u, h, a, b, c, rfl, hj, hu, hhr, za, zb, zu, zc, hf, u0, ha, hbc, q⟩ := h
    refine ⟨_, (pss_cons (ps_asg (pv 0) (pg_tupK (K := K) rfl rfl (pgs_cons (pg_name (i := 4) sc_p_boiled_down.nd rfl (by first | exact Or.inl rfl | exact Or.inr rfl)) (pgs_cons (pg_name (i := 5) sc_p_boiled_down.nd rfl (by first | exact Or.inl rfl | exact Or.inr rfl)) pgs_nil))))
      (pss_cons (ps_set (i := 6) sc_p_boiled_down.nd rfl (by first | exact Or.inl rfl | exact Or.inr rfl) (pe_call (ok_p_water_at T) (hr.mono (by decide)) (by rfl) T.d_p_water_at.mg T.d_p_water_at.fn.kp T.d_p_water_at.b .nil pass0 (pa_cons (pv 4) (pa_cons (pv 2) pa_nil))))
      (pss_cons (ps_if (pt_not (pt_val (pe_call (ok_p_is_lesser T) hr (by rfl) T.d_p_is_lesser.mg T.d_p_is_lesser.fn.kp T.d_p_is_lesser.b .nil pass0 (pa_cons (pv 6) (pa_cons (pv 5) pa_nil))))) (pss_one (ps_ret (pv 0))) pss_nil)
      (pss_cons (ps_set (i := 7) sc_p_boiled_down.nd rfl (by first | exact Or.inl rfl | exact Or.inr rfl) (pe_call (ok_p_difference T) (hr.mono (by decide)) (by rfl) T.d_p_difference.mg T.d_p_difference.fn.kp T.d_p_difference.b .nil pass0 (pa_cons (pv 5) (pa_cons (pe_call (ok_p_product T) (hr.mono (by decide)) (by rfl) T.d_p_product.mg T.d_p_product.fn.kp T.d_p_product.b .nil pass0 (pa_cons (pe_tupI (pa_cons (pv 1) (pa_cons pe_int pa_nil))) (pa_cons (pv 3) pa_nil))) pa_nil))))
      (pss_cons (ps_J (ps_if (pt_val (pe_call (ok_p_is_lesser T) hr (by rfl) T.d_p_is_lesser.mg T.d_p_is_lesser.fn.kp T.d_p_is_lesser.b .nil pass0 (pa_cons (pv 7) (pa_cons (pv 6) pa_nil)))) (pss_one (ps_set (i := 7) sc_p_boiled_down.nd rfl (by first | exact Or.inl rfl | exact Or.inr rfl) (pv 6))) pss_nil))
      (pss_one (ps_ret (pe_tupI (pa_cons (pv 4) (pa_cons (pv 7) pa_nil)))))))))), ?_⟩
    obtain ⟨x1, x2, hjj, h1, h2⟩ := hj
    refine ⟨_, rfl, j, _, rfl, hjj, rfl, _, _, rfl, _, _, rfl, rfl, ?_⟩
    refine ⟨_, rfl, _, rfl, x1, mk, s, u, a, 133, rfl, h1, hu, za, zu, by omega, u0, fun l H1 s1 n1 hl zl => ?_⟩
    have hl' : FrQ K H1 l (wat s u) := hl
    have zl' : Sz 1900 (wat s u) := Sz.up zl (by omega)
    refine ⟨_, rfl, _, rfl, l, x2, wat s u, w, rfl, hl', h2.same s1, zl', zb.up (by omega), _, rfl, ite2 (fun cc => ?_) (fun cc => ?_)⟩
    · have c1 : ¬ wat s u < w := by simpa using cc
      refine ⟨_, rfl, ?_⟩
      have e : boil s w f u h = w := by
        unfold boil
        rw [if_neg c1]
      refine q j H1 s1 ?_
      rw [e]
      exact JuQ.same ⟨x1, x2, hjj, h1, h2⟩ s1
    · have c1 : wat s u < w := by simpa using cc
      refine ⟨_, rfl, _, rfl, rfl, fun t H2 s2 n2 h2' => ?_⟩
      refine ⟨_, rfl, t, hh, (f : Rat), h, 14, c, rfl, .int h2', hhr.same (s1.trans s2), Sz.int hf (by decide), zc, by omega, trivial, fun m H3 s3 n3 h3 k3 => ?_⟩
      refine ⟨x2, m, w, (f : Rat) * h, b, 14 + c + 1, rfl, h2.same (s1.trans (s2.trans s3)), h3, zb, k3, by omega, trivial, fun d H4 s4 n4 h4 k4 => ?_⟩
      have s14 : Same H1 H4 := s2.trans (s3.trans s4)
      refine ⟨fun σ' H' => ∃ y : Addr, σ' = [some (.ref j), some (.int f), some (.ref mk), some (.ref hh), some (.ref x1), some (.ref x2), some (.ref l), some (.ref y)] ∧ FrQ K H' y (boil s w f u h) ∧ H' = H4, ?_, ?_⟩
      · rintro σ' H' ⟨y, rfl, hy, rfl⟩
        refine ⟨_, rfl, _, rfl, rfl, fun z H5 s5 n5 h5 => ?_⟩
        exact q z H5 (s1.trans (s14.trans s5)) (.new h5 (h1.same (s1.trans (s14.trans s5))) (hy.same s5))
      · refine ⟨_, rfl, _, rfl, d, l, _, _, rfl, h4, hl'.same s14, Sz.up k4 (by omega), zl', _, rfl, ite2 (fun c2 => ?_) (fun c2 => ?_)⟩
        · have c3 : w - (f : Rat) * h < wat s u := of_decide_eq_true c2
          refine ⟨_, rfl, l, rfl, ?_, rfl⟩
          unfold boil
          rw [if_pos c1, if_pos c3]
          exact hl'.same s14
        · have c3 : ¬ w - (f : Rat) * h < wat s u := of_decide_eq_false (Bool.eq_false_iff.mpr c2)
          refine ⟨d, rfl, ?_, rfl⟩
          unfold boil
          rw [if_pos c1, if_neg c3]
          exact h4

end
end KR
namespace KR
open PySem PySem.Spec PyProof.Rows L2
section
variable {P : Program} {w : World} {K : PySem.W.Frag} {mg : Str → Option Value} {base : Heap}
def sp_ready (K : PySem.W.Frag) : Sp := fun vs H Q _ => ∃ (j mk : Addr) (f : Int) (s w u : Rat) (a b : Nat), vs = [.ref j, .int f, .ref mk] ∧ JuQ K H j s w ∧ FrQ K H mk u ∧ Sz a s ∧ Sz b w ∧ Sz 133 u ∧ f.natAbs < 2 ^ 14 ∧ u ≠ 0 ∧ a + b ≤ 1000 ∧
  ∀ v H', Same H H' → OQ K H' v (ready s w f u) → (∀ q, ready s w f u = some q → Sz (a + b + 150) q) → Q v H'
theorem ok_p_ready_in (T : All K mg) : FnOk P w K mg base CX0 4 T.f_p_ready_in T.fd_p_ready_in ["juice", "fire", "mark"] (sp_ready K) := by
  refine T.d_p_ready_in.fn.ok sc_p_ready_in (fun vs H Q E h => ?_) (fun cdv A outer s H vs Q E hr h => ?_)
  · obtain ⟨j, mk, f, s, w, u, a, b, rfl, _⟩ := h
    rfl
  · obtain ⟨j, mk, f, s, w, u, a, b, rfl, hj, hu, za, zb, zu, hf, u0, hab, q⟩ := h
    obtain ⟨x1, x2, hjj, h1, h2⟩ := hj
    refine ⟨_, (pss_cons (ps_asg (pv 0) (pg_tupK (K := K) rfl rfl (pgs_cons (pg_name (i := 3) sc_p_ready_in.nd rfl (by first | exact Or.inl rfl | exact Or.inr rfl)) (pgs_cons (pg_name (i := 4) sc_p_ready_in.nd rfl (by first | exact Or.inl rfl | exact Or.inr rfl)) pgs_nil))))
      (pss_cons (ps_if (pt_cmpR (eqDK (K := K) rfl hr.units) (pv 3) (pe_glob (v := .ref T.C_NOUGHT) rfl T.g_NOUGHT rfl) (nomark _)) (pss_one (ps_ret pe_non)) pss_nil)
      (pss_cons (ps_set (i := 5) sc_p_ready_in.nd rfl (by first | exact Or.inl rfl | exact Or.inr rfl) (pe_call (ok_p_water_at T) (hr.mono (by decide)) (by rfl) T.d_p_water_at.mg T.d_p_water_at.fn.kp T.d_p_water_at.b .nil pass0 (pa_cons (pv 3) (pa_cons (pv 2) pa_nil))))
      (pss_cons (ps_if (pt_not (pt_val (pe_call (ok_p_is_lesser T) hr (by rfl) T.d_p_is_lesser.mg T.d_p_is_lesser.fn.kp T.d_p_is_lesser.b .nil pass0 (pa_cons (pv 5) (pa_cons (pv 4) pa_nil))))) (pss_one (ps_ret (pe_glob (v := .ref T.C_NOUGHT) rfl T.g_NOUGHT rfl))) pss_nil)
      (pss_cons (ps_if (pt_cmpR op_eq (pv 1) pe_int (nomark _)) (pss_one (ps_ret pe_non)) pss_nil)
      (pss_cons (ps_set (i := 6) sc_p_ready_in.nd rfl (by first | exact Or.inl rfl | exact Or.inr rfl) (pe_call (ok_p_difference T) (hr.mono (by decide)) (by rfl) T.d_p_difference.mg T.d_p_difference.fn.kp T.d_p_difference.b .nil pass0 (pa_cons (pv 4) (pa_cons (pv 5) pa_nil))))
      (pss_one (ps_ret (pe_call (ok_p_frac_of T) (hr.mono (by decide)) (by rfl) T.d_p_frac_of.mg T.d_p_frac_of.fn.kp T.d_p_frac_of.b .nil pass0 (pa_cons (pe_ix (ixT (K := K) rfl) (pv 6) pe_int (fun _ _ => rfl)) (pa_cons (pe_op op_mulX (pe_ix (ixT (K := K) rfl) (pv 6) pe_int (fun _ _ => rfl)) (pv 1)) pa_nil))))))))))), ?_⟩
    refine ⟨_, rfl, j, _, rfl, hjj, rfl, _, _, rfl, _, _, rfl, rfl, ?_⟩
    refine ⟨_, rfl, dq s, .tuple [.int 0, .int 1], h1.dp, .tup (T.q_NOUGHT H) (.cons (.int _) (.cons (.int _) .nil)), rfl, rfl, _, rfl, ?_⟩
    rw [show PyData.eqv (dq s) (.tuple [.int 0, .int 1]) = decide (s = 0) from eqv_pair.trans is_zero]
    refine ite2 (fun c => ?_) (fun c => ?_)
    · have e : ready s w f u = none := if_pos (of_decide_eq_true c)
      exact q _ H (.refl _) (by rw [e] <;> rfl) (fun r hr => by rw [e] at hr; cases hr)
    have s0 : s ≠ 0 := of_decide_eq_false (Bool.eq_false_iff.mpr c)
    refine ⟨_, rfl, _, rfl, x1, mk, s, u, a, 133, rfl, h1, hu, za, zu, by omega, u0, fun l H1 s1 n1 hl zl => ?_⟩
    have hl' : FrQ K H1 l (wat s u) := hl
    have zl' : Sz 1900 (wat s u) := Sz.up zl (by omega)
    refine ⟨_, rfl, _, rfl, l, x2, wat s u, w, rfl, hl', h2.same s1, zl', zb.up (by omega), _, rfl, ite2 (fun cc => ?_) (fun cc => ?_)⟩
    · have c1 : ¬ wat s u < w := by simpa using cc
      have e : ready s w f u = some 0 := (if_neg s0).trans (if_neg c1)
      exact q _ H1 s1 (by rw [e]; exact ⟨_, rfl, T.q_NOUGHT H1⟩) (fun r hr => by rw [e] at hr; cases hr; exact Sz.up (Sz.int (z := 0) (n := 1) (by decide) (by decide)) (by omega))
    have c1 : wat s u < w := by simpa using cc
    refine ⟨_, rfl, rfl, _, rfl, ite2 (fun c2 => ?_) (fun c2 => ?_)⟩
    · have f0 : f = 0 := V.int.inj (of_decide_eq_true c2)
      have e : ready s w f u = none := (if_neg s0).trans ((if_pos c1).trans (if_pos f0))
      exact q _ H1 s1 (by rw [e] <;> rfl) (fun r hr => by rw [e] at hr; cases hr)
    have f0 : f ≠ 0 := fun z => c2 (by rw [z] <;> exact decide_eq_true rfl)
    have e : ready s w f u = some ((w - wat s u) / (f : Rat)) := (if_neg s0).trans ((if_pos c1).trans (if_neg f0))
    refine ⟨_, rfl, _, rfl, x2, l, w, wat s u, b, a + 134, rfl, h2.same s1, hl', zb, Sz.up zl (by omega), by omega, trivial, fun o H2 s2 n2 h3 k3 => ?_⟩
    have h3' : SqT K H2 o [.int (w - wat s u).num, .int ((w - wat s u).den : Int)] := h3
    obtain ⟨r1, r2⟩ := k3
    refine ⟨_, rfl, o, _, 0, _, rfl, rfl, h3', at0, _, rfl, o, _, 1, _, rfl, rfl, h3', at1, _, rfl, _, _, rfl, rfl, mulZ r2 hf (by omega), ?_⟩
    refine ⟨_, _, a + b + 150, rfl, Int.mul_ne_zero (den_ne' _) f0, lt_up r1 (by omega), lt_up (wide_lt r2 hf) (by omega), by omega, fun z H4 s4 n4 h4 k4 => ?_⟩
    rw [rq_divi] at h4 k4
    exact q _ H4 (s1.trans (s2.trans s4)) (by rw [e]; exact ⟨z, rfl, h4⟩) (fun r hr => by rw [e] at hr; cases hr; exact k4)

end
end KR
namespace KR
open PySem PySem.Spec PyProof.Rows L2
section
variable {P : Program} {w : World} {K : PySem.W.Frag} {mg : Str → Option Value} {base : Heap}
theorem ok_p_volume_of (T : All K mg) : FnOk P w K mg base CX0 3 T.f_p_volume_of T.fd_p_volume_of ["juice"] (sp_vol K) := by
  refine T.d_p_volume_of.fn.ok sc_p_volume_of (fun vs H Q E h => ?_) (fun cdv A outer s H vs Q E hr h => ?_)
  · obtain ⟨x, s, w, m, rfl, _⟩ := h
    rfl
  · obtain ⟨x, s, w, m, rfl, ⟨a1, a2, hx, ha1, ha2⟩, za, zb, hm, q⟩ := h
    refine ⟨_, (pss_one (ps_ret (pe_call (ok_p_sum_of T) hr (by rfl) T.d_p_sum_of.mg T.d_p_sum_of.fn.kp T.d_p_sum_of.b .nil pass0 (pa_cons (pe_ix (ixT (K := K) rfl) (pv 0) pe_int (fun _ _ => rfl)) (pa_cons (pe_ix (ixT (K := K) rfl) (pv 0) pe_int (fun _ _ => rfl)) pa_nil))))), ?_⟩
    refine ⟨_, rfl, x, _, 0, _, rfl, rfl, hx, at0, _, rfl, x, _, 1, _, rfl, rfl, hx, at1, a1, a2, s, w, m, m, rfl, ha1, ha2, za, zb, by omega, trivial, fun z1 H1 s1 n1 h1 k1 => ?_⟩
    exact q z1 H1 s1 h1 k1

end
end KR
namespace KR
open PySem PySem.Spec PyProof.Rows L2
section
variable {P : Program} {w : World} {K : PySem.W.Frag} {mg : Str → Option Value} {base : Heap}
theorem ok_p_strength_of (T : All K mg) : FnOk P w K mg base CX0 4 T.f_p_strength_of T.fd_p_strength_of ["juice"] (sp_str K) := by
  refine T.d_p_strength_of.fn.ok sc_p_strength_of (fun vs H Q E h => ?_) (fun cdv A outer s H vs Q E hr h => ?_)
  · obtain ⟨x, s, w, m, rfl, _⟩ := h
    rfl
  · obtain ⟨x, s, w, m, rfl, hj, za, zb, hm, q⟩ := h
    obtain ⟨a1, a2, hx, ha1, ha2⟩ := id hj
    refine ⟨_, (pss_cons (ps_set (i := 1) sc_p_strength_of.nd rfl (by first | exact Or.inl rfl | exact Or.inr rfl) (pe_call (ok_p_volume_of T) hr (by rfl) T.d_p_volume_of.mg T.d_p_volume_of.fn.kp T.d_p_volume_of.b .nil pass0 (pa_cons (pv 0) pa_nil)))
      (pss_cons (ps_if (pt_cmpR (eqDK (K := K) rfl hr.units) (pv 1) (pe_glob (v := .ref T.C_NOUGHT) rfl T.g_NOUGHT rfl) (nomark _)) (pss_one (ps_ret pe_non)) pss_nil)
      (pss_one (ps_ret (pe_call (ok_p_quotient T) (hr.mono (by decide)) (by rfl) T.d_p_quotient.mg T.d_p_quotient.fn.kp T.d_p_quotient.b .nil pass0 (pa_cons (pe_ix (ixT (K := K) rfl) (pv 0) pe_int (fun _ _ => rfl)) (pa_cons (pv 1) pa_nil))))))), ?_⟩
    refine ⟨_, rfl, x, s, w, m, rfl, hj, za, zb, by omega, fun v H1 s1 h1 k1 => ?_⟩
    refine ⟨_, rfl, dq (s + w), .tuple [.int 0, .int 1], .tup h1 (.cons (.int _) (.cons (.int _) .nil)), .tup (T.q_NOUGHT H1) (.cons (.int _) (.cons (.int _) .nil)), rfl, rfl, ?_⟩
    rw [show PyData.eqv (dq (s + w)) (.tuple [.int 0, .int 1]) = decide (s + w = 0) from eqv_pair.trans is_zero]
    refine ⟨_, rfl, ite2 (fun c => ?_) (fun c => ?_)⟩
    · have c1 : s + w = 0 := of_decide_eq_true c
      have e : stren s w = none := if_pos c1
      refine q _ H1 s1 (by rw [e] <;> rfl) (fun r hr => by rw [e] at hr; cases hr)
    · have c1 : s + w ≠ 0 := of_decide_eq_false (Bool.eq_false_iff.mpr c)
      have e : stren s w = some (s / (s + w)) := if_neg c1
      refine ⟨_, rfl, x, _, 0, _, rfl, rfl, Same.tup s1 hx, at0, _, rfl, a1, v, s, s + w, m, m + m + 1, rfl, ha1.same s1, h1, za, k1, by omega, c1, fun z H2 s2 n2 h2 k2 => ?_⟩
      refine q _ H2 (s1.trans s2) (by rw [e]; exact ⟨z, rfl, h2⟩) (fun r hr => by rw [e] at hr; cases hr; exact Sz.up k2 (by omega))

end
end KR
namespace KR
open PySem PySem.Spec PyProof.Rows L2
section
variable {P : Program} {w : World} {K : PySem.W.Frag} {mg : Str → Option Value} {base : Heap}
def sp_l_case (K : PySem.W.Frag) : Sp := fun vs H Q _ => ∃ (p : Addr) (n : Nat), vs = [.ref p] ∧ BoxAt H p n ∧ n ≤ 999990000 ∧ ∀ (c j mk l : Addr) (f : Int) (s w u : Rat) (H' : Hp), H' c = some (.tup [.ref j, .int f, .ref mk, .ref l]) → JuQ K H' j s w → FrQ K H' mk u → FrQ K H' l (wat s u) → Sz 133 s → Sz 133 w → Sz 133 u → 0 ≤ s → 0 < u → u < 1 → 0 ≤ f → f ≤ 10000 → BoxAt H' p (n + 30) → Fr p H H' → Q (.ref c) H'
theorem ok_l_case (T : All K mg) : FnOk P w K mg base CX0 5 T.f_l_case T.fd_l_case ["_law_box_here"] (sp_l_case K) := by
  refine T.d_l_case.fn.ok sc_l_case (fun vs H Q E h => ?_) (fun cdv A outer s H vs Q E hr h => ?_)
  · obtain ⟨p, n, rfl, _⟩ := h
    rfl
  · obtain ⟨p, n, rfl, hB, hn, q⟩ := h
    refine ⟨_, (pss_cons (ps_par (i := 1) (j := 2) (by rfl) sc_l_case.nd rfl rfl (by decide) rfl rfl (pa_cons (pe_call (ok_l_juice T) (hr.mono (by decide)) (by rfl) T.d_l_juice.mg T.d_l_juice.fn.kp T.d_l_juice.b .nil pass0 (pa_cons (pv 0) pa_nil)) (pa_cons (pe_call (ok_l_take T) (hr.mono (by decide)) (by rfl) T.d_l_take.mg T.d_l_take.fn.kp T.d_l_take.b .nil pass0 (pa_cons (pv 0) (pa_cons pe_int pa_nil))) pa_nil)) (by rfl))
      (pss_cons (ps_par (i := 3) (j := 4) (by rfl) sc_l_case.nd rfl rfl (by decide) rfl rfl (pa_cons (pe_call (ok_l_mark T) (hr.mono (by decide)) (by rfl) T.d_l_mark.mg T.d_l_mark.fn.kp T.d_l_mark.b .nil pass0 (pa_cons (pv 0) pa_nil)) (pa_cons (pe_call (ok_l_share T) (hr.mono (by decide)) (by rfl) T.d_l_share.mg T.d_l_share.fn.kp T.d_l_share.b .nil pass0 (pa_cons (pv 0) pa_nil)) pa_nil)) (by rfl))
      (pss_cons (ps_set (i := 5) sc_l_case.nd rfl (by first | exact Or.inl rfl | exact Or.inr rfl) (pe_call (ok_l_plus T) (hr.mono (by decide)) (by rfl) T.d_l_plus.mg T.d_l_plus.fn.kp T.d_l_plus.b .nil pass0 (pa_cons (pe_call (ok_l_low T) (hr.mono (by decide)) (by rfl) T.d_l_low.mg T.d_l_low.fn.kp T.d_l_low.b .nil pass0 (pa_cons (pe_op op_mulX (pe_ix (ixT (K := K) rfl) (pe_ix (ixT (K := K) rfl) (pv 1) pe_int (fun _ _ => rfl)) pe_int (fun _ _ => rfl)) (pe_ix (ixT (K := K) rfl) (pv 3) pe_int (fun _ _ => rfl))) (pa_cons (pe_op op_mulX (pe_ix (ixT (K := K) rfl) (pe_ix (ixT (K := K) rfl) (pv 1) pe_int (fun _ _ => rfl)) pe_int (fun _ _ => rfl)) (pe_ix (ixT (K := K) rfl) (pv 3) pe_int (fun _ _ => rfl))) pa_nil))) (pa_cons (pe_tupI (pa_cons (pe_un un_neg (pe_ix (ixT (K := K) rfl) (pe_ix (ixT (K := K) rfl) (pv 1) pe_int (fun _ _ => rfl)) pe_int (fun _ _ => rfl))) (pa_cons (pe_ix (ixT (K := K) rfl) (pe_ix (ixT (K := K) rfl) (pv 1) pe_int (fun _ _ => rfl)) pe_int (fun _ _ => rfl)) pa_nil))) pa_nil))))
      (pss_cons (ps_set (i := 6) sc_l_case.nd rfl (by first | exact Or.inl rfl | exact Or.inr rfl) (pe_ix (ixL (K := K) rfl) (pe_lstI (pa_cons (pv 5) (pa_cons (pe_call (ok_l_by T) (hr.mono (by decide)) (by rfl) T.d_l_by.mg T.d_l_by.fn.kp T.d_l_by.b .nil pass0 (pa_cons (pv 5) (pa_cons (pv 4) pa_nil))) (pa_cons (pe_call (ok_l_plus T) (hr.mono (by decide)) (by rfl) T.d_l_plus.mg T.d_l_plus.fn.kp T.d_l_plus.b .nil pass0 (pa_cons (pv 5) (pa_cons (pv 4) pa_nil))) (pa_cons (pe_ix (ixT (K := K) rfl) (pv 1) pe_int (fun _ _ => rfl)) (pa_cons (pe_ix (ixT (K := K) rfl) (pv 1) pe_int (fun _ _ => rfl)) (pa_cons (pe_ix (ixT (K := K) rfl) (pv 1) pe_int (fun _ _ => rfl)) pa_nil))))))) (pv 2) (fun _ _ => rfl)))
      (pss_cons (ps_J (ps_if (pt_val (pe_call (ok_l_is_small T) (hr.mono (by decide)) (by rfl) T.d_l_is_small.mg T.d_l_is_small.fn.kp T.d_l_is_small.b .nil pass0 (pa_cons (pv 6) pa_nil))) (pss_one (ps_set (i := 1) sc_l_case.nd rfl (by first | exact Or.inl rfl | exact Or.inr rfl) (pe_tupI (pa_cons (pe_ix (ixT (K := K) rfl) (pv 1) pe_int (fun _ _ => rfl)) (pa_cons (pv 6) pa_nil))))) pss_nil))
      (pss_one (ps_ret (pe_tupI (pa_cons (pv 1) (pa_cons (pe_ix (ixL (K := K) rfl) (pe_lstI (pa_cons pe_int (pa_cons (pe_op op_add pe_int (pe_call (ok_l_take T) (hr.mono (by decide)) (by rfl) T.d_l_take.mg T.d_l_take.fn.kp T.d_l_take.b .nil pass0 (pa_cons (pv 0) (pa_cons pe_int pa_nil)))) (pa_cons pe_int pa_nil)))) (pe_call (ok_l_take T) (hr.mono (by decide)) (by rfl) T.d_l_take.mg T.d_l_take.fn.kp T.d_l_take.b .nil pass0 (pa_cons (pv 0) (pa_cons pe_int pa_nil))) (fun _ _ => rfl)) (pa_cons (pv 3) (pa_cons (pv 5) pa_nil)))))))))))), ?_⟩
    refine ⟨_, rfl, p, n, rfl, hB, by omega, fun j s w H1 zs zw ns nw hj B1 F1 => ?_⟩
    refine ⟨_, rfl, p, 6, n + 12, rfl, B1, by omega, by decide, by decide, fun way H2 w0 w1 B2 F2 => ?_⟩
    refine ⟨_, _, rfl, ?_⟩
    refine ⟨_, rfl, p, n + 13, rfl, B2, by omega, fun mk u H3 zu u0 u1 hu B3 F3 => ?_⟩
    refine ⟨_, rfl, p, n + 18, rfl, B3, by omega, fun sh t H4 zt t0 t1 ht B4 F4 => ?_⟩
    refine ⟨_, _, rfl, ?_⟩
    have une : u ≠ 0 := fun z => by rw [z] at u0; exact absurd u0 (by decide)
    obtain ⟨x1, x2, hjj, h1, h2⟩ := ((hj.fr B1 F2).fr B2 F3).fr B3 F4
    have u4 := hu.fr B3 F4
    have h1' : SqT K H4 x1 [.int s.num, .int (s.den : Int)] := h1
    have u4' : SqT K H4 mk [.int u.num, .int (u.den : Int)] := u4
    obtain ⟨a1, a2⟩ := id zs
    obtain ⟨b1, b2⟩ := id zu
    refine ⟨_, rfl, j, _, 0, _, rfl, rfl, hjj, at0, x1, _, 0, _, rfl, rfl, h1', at0, _, rfl, mk, _, 1, _, rfl, rfl, u4', at1, _, _, rfl, rfl, mulZ a1 b2 (by omega), ?_⟩
    refine ⟨_, rfl, j, _, 0, _, rfl, rfl, hjj, at0, x1, _, 1, _, rfl, rfl, h1', at1, _, rfl, mk, _, 0, _, rfl, rfl, u4', at0, _, _, rfl, rfl, mulZ a2 b1 (by omega), ?_⟩
    refine ⟨_, _, 266, rfl, Int.mul_ne_zero (den_ne' s) (num_ne une), lt_up (wide_lt a1 b2) (by omega), lt_up (wide_lt a2 b1) (by omega), by omega, fun z H5 s5 n5 h5 k5 => ?_⟩
    rw [rq_div] at h5 k5
    have j5 := Same.tup s5 hjj
    have h15 := Same.tup s5 h1'
    refine ⟨_, rfl, j, _, 0, _, rfl, rfl, j5, at0, x1, _, 0, _, rfl, rfl, h15, at0, _, rfl, ?_⟩
    refine ⟨_, rfl, j, _, 0, _, rfl, rfl, j5, at0, x1, _, 1, _, rfl, rfl, h15, at1, rfl, fun y2 H6 s6 n6 h6 => ?_⟩
    refine ⟨z, y2, s / u, -s, 266, 133, rfl, h5.same s6, .of h6, k5, Sz.neg ⟨a1, a2⟩, by decide, trivial, fun l H7 s7 n7 h7 k7 => ?_⟩
    have e : s / u + -s = wat s u := by
      unfold wat
      grind
    have h7 : FrQ K H7 l (wat s u) := e ▸ h7
    have k7 : Sz 400 (wat s u) := e ▸ k7
    have s47 := s5.trans (s6.trans s7)
    -- the water
    refine ⟨_, rfl, ?_⟩
    refine ⟨_, rfl, _, rfl, l, sh, _, t, 400, 4, rfl, h7, ht.same s47, k7, zt, by decide, trivial, fun y3 H8 s8 n8 h8 k8 => ?_⟩
    refine ⟨_, rfl, _, rfl, l, sh, _, t, 400, 4, rfl, h7.same s8, ht.same (s47.trans s8), k7, zt, by decide, trivial, fun y4 H9 s9 n9 h9 k9 => ?_⟩
    have s49 := s47.trans (s8.trans s9)
    have j9 := Same.tup s49 hjj
    refine ⟨_, rfl, j, _, 1, _, rfl, rfl, j9, at1, _, rfl, j, _, 1, _, rfl, rfl, j9, at1, _, rfl, j, _, 1, _, rfl, rfl, j9, at1, rfl, fun ls H10 s10 n10 h10 => ?_⟩
    have s410 := s49.trans s10
    have em : ∃ (a : Addr) (r : Rat), atI [V.ref l, V.ref y3, V.ref y4, V.ref x2, V.ref x2, V.ref x2] way = some (.ref a) ∧ FrQ K H10 a r := by
      have ws : way = 0 ∨ way = 1 ∨ way = 2 ∨ way = 3 ∨ way = 4 ∨ way = 5 := by omega
      rcases ws with z | z | z | z | z | z <;> subst z
      · exact ⟨l, _, rfl, h7.same (s8.trans (s9.trans s10))⟩
      · exact ⟨y3, _, rfl, h8.same (s9.trans s10)⟩
      · exact ⟨y4, _, rfl, h9.same s10⟩
      · exact ⟨x2, w, rfl, h2.same s410⟩
      · exact ⟨x2, w, rfl, h2.same s410⟩
      · exact ⟨x2, w, rfl, h2.same s410⟩
    obtain ⟨wa, wn, ew, hw⟩ := em
    refine ⟨_, rfl, ls, _, way, _, rfl, rfl, SqL.of h10, ew, ?_⟩
    have B10 := B4.same s410
    have l10 := h7.same (s8.trans (s9.trans s10))
    have m10 := u4.same s410
    have F10 : Fr p H H10 := F1.trans (F2.trans (F3.trans (F4.trans (.of s410))))
    have j10 : JuQ K H10 j s w := JuQ.same ⟨x1, x2, hjj, h1, h2⟩ s410
    refine ⟨fun σ' H' => ∃ (j' : Addr) (w' : Rat), σ' = [some (.ref p), some (.ref j'), some (.int way), some (.ref mk), some (.ref sh), some (.ref l), some (.ref wa)] ∧ JuQ K H' j' s w' ∧ Sz 133 w' ∧ Same H10 H', ?_, ?_⟩
    rotate_left
    · refine ⟨_, rfl, wa, wn, rfl, hw, fun b hb => ⟨_, rfl, ?_⟩⟩
      cases b with
      | false => exact iteF ⟨j, w, rfl, j10, zw, .refl _⟩
      | true =>
        obtain ⟨c1, c2, cj, hc1, hc2⟩ := id j10
        refine iteT ⟨_, rfl, j, _, 0, _, rfl, rfl, cj, at0, _, rfl, rfl, fun jj H11 s11 n11 h11 => ?_⟩
        exact ⟨jj, wn, rfl, .new h11 (hc1.same s11) (hw.same s11), hb rfl, s11⟩
    rintro σ' H11 ⟨j', w', rfl, j11, zw', s11⟩
    have B11 := B10.same s11
    refine ⟨_, rfl, _, rfl, p, 9, n + 20, rfl, B11, by omega, by decide, by decide, fun y H12 y0 y1 B12 F12 => ?_⟩
    refine ⟨_, _, rfl, rfl, rfl, fun ls2 H13 s13 n13 h13 => ?_⟩
    have B13 := B12.same s13
    have nls : ls2 ≠ p := B12.new n13
    refine ⟨_, rfl, p, 3, n + 21, rfl, B13, by omega, by decide, by decide, fun k H14 k0 k1 B14 F14 => ?_⟩
    obtain ⟨f, ef, f0, f9⟩ : ∃ f : Int, atI ([.int 0, .int (1 + y), .int 10000] : List V) k = some (.int f) ∧ 0 ≤ f ∧ f ≤ 10000 := by
      have ks : k = 0 ∨ k = 1 ∨ k = 2 := by omega
      rcases ks with e | e | e <;> subst e
      · exact ⟨_, rfl, by decide, by decide⟩
      · exact ⟨_, rfl, by omega, by omega⟩
      · exact ⟨_, rfl, by decide, by decide⟩
    refine ⟨ls2, _, k, _, rfl, rfl, SqL.of (F14 _ _ nls h13), ef, ?_⟩
    refine ⟨_, rfl, _, rfl, rfl, fun c H15 s15 n15 h15 => ?_⟩
    have F1115 : Fr p H11 H15 := F12.trans ((Fr.of s13).trans (F14.trans (.of s15)))
    exact q c j' mk l f s w' u H15 h15 (j11.fr B11 F1115) ((m10.same s11).fr B11 F1115) ((l10.same s11).fr B11 F1115) zs zw' zu ns u0 u1 f0 f9 ((B14.same s15).mono (by omega)) (F10.trans ((Fr.of s11).trans F1115))

end
end KR
namespace KR
open PySem PySem.Spec PyProof.Rows L2
section
variable {P : Program} {w : World} {K : PySem.W.Frag} {mg : Str → Option Value} {base : Heap}
def sp_l_way (K : PySem.W.Frag) : Sp := fun vs H Q _ => ∃ (p j mk wh : Addr) (n : Nat) (f : Int) (s w u t : Rat), vs = [.ref p, .ref j, .int f, .ref mk, .ref wh] ∧ BoxAt H p n ∧ n ≤ 999990000 ∧ JuQ K H j s w ∧ FrQ K H mk u ∧ FrQ K H wh t ∧ Sz 133 s ∧ Sz 133 w ∧ Sz 133 u ∧ Sz 420 t ∧ 0 < s ∧ 0 < u ∧ u < 1 ∧ 0 < f ∧ f ≤ 10000 ∧ wat s u < w ∧ t = (w - wat s u) / (f : Rat) ∧
  ∀ H', BoxAt H' p (n + 2) → Fr p H H' → Q (.bl true) H'
theorem ok_l_on_the_way_right (T : All K mg) : FnOk P w K mg base CX0 7 T.f_l_on_the_way_right T.fd_l_on_the_way_right ["_law_box_here", "_law_juice_here", "_law_fire", "_law_mark_here", "_law_when"] (sp_l_way K) := by
  refine T.d_l_on_the_way_right.fn.ok sc_l_on_the_way_right (fun vs H Q E h => ?_) (fun cdv A outer s H vs Q E hr h => ?_)
  · obtain ⟨p, j, mk, wh, n, f, s, w, u, t, rfl, _⟩ := h
    rfl
  · obtain ⟨p, j, mk, wh, n, f, s, w, u, t, rfl, hB, hn, hj, hu, ht, zs, zw, zu, zt, s0, u0, u1, f0, f9, lt, et, q⟩ := h
    refine ⟨_, (pss_cons (ps_set (i := 5) sc_l_on_the_way_right.nd rfl (by first | exact Or.inl rfl | exact Or.inr rfl) (pe_call (ok_l_share T) (hr.mono (by decide)) (by rfl) T.d_l_share.mg T.d_l_share.fn.kp T.d_l_share.b .nil pass0 (pa_cons (pv 0) pa_nil)))
      (pss_cons (ps_par (i := 6) (j := 7) (by rfl) sc_l_on_the_way_right.nd rfl rfl (by decide) rfl rfl (pa_cons (pe_call (ok_l_by T) (hr.mono (by decide)) (by rfl) T.d_l_by.mg T.d_l_by.fn.kp T.d_l_by.b .nil pass0 (pa_cons (pv 4) (pa_cons (pv 5) pa_nil))) (pa_cons (pe_call (ok_l_plus T) (hr.mono (by decide)) (by rfl) T.d_l_plus.mg T.d_l_plus.fn.kp T.d_l_plus.b .nil pass0 (pa_cons (pv 4) (pa_cons (pv 5) pa_nil))) pa_nil)) (by rfl))
      (pss_cons (ps_set (i := 8) sc_l_on_the_way_right.nd rfl (by first | exact Or.inl rfl | exact Or.inr rfl) (pe_call (ok_p_boiled_down T) (hr.mono (by decide)) (by rfl) T.d_p_boiled_down.mg T.d_p_boiled_down.fn.kp T.d_p_boiled_down.b .nil pass0 (pa_cons (pv 1) (pa_cons (pv 2) (pa_cons (pv 3) (pa_cons (pv 4) pa_nil))))))
      (pss_cons (ps_J (ps_if (PW.pt (pw_or (pt_cmpR (neDK (K := K) rfl hr.units) (pe_call (ok_p_strength_of T) (hr.mono (by decide)) (by rfl) T.d_p_strength_of.mg T.d_p_strength_of.fn.kp T.d_p_strength_of.b .nil pass0 (pa_cons (pv 8) pa_nil)) (pv 3) (nomark _)) (pw_or1 (PW.pt (pw_and (pt_val (pe_call (ok_l_is_small T) (hr.mono (by decide)) (by rfl) T.d_l_is_small.mg T.d_l_is_small.fn.kp T.d_l_is_small.b .nil pass0 (pa_cons (pv 7) pa_nil))) (pw_and1 (pt_cmpR (neDK (K := K) rfl hr.units) (pe_call (ok_p_boiled_down T) (hr.mono (by decide)) (by rfl) T.d_p_boiled_down.mg T.d_p_boiled_down.fn.kp T.d_p_boiled_down.b .nil pass0 (pa_cons (pv 1) (pa_cons (pv 2) (pa_cons (pv 3) (pa_cons (pv 7) pa_nil))))) (pv 8) (nomark _)))))))) (pss_one (ps_ret pe_bl)) pss_nil))
      (pss_cons (ps_if (pt_not (pt_val (pe_call (ok_l_is_small T) (hr.mono (by decide)) (by rfl) T.d_l_is_small.mg T.d_l_is_small.fn.kp T.d_l_is_small.b .nil pass0 (pa_cons (pv 6) pa_nil)))) (pss_one (ps_ret pe_bl)) pss_nil)
      (pss_cons (ps_set (i := 9) sc_l_on_the_way_right.nd rfl (by first | exact Or.inl rfl | exact Or.inr rfl) (pe_call (ok_p_boiled_down T) (hr.mono (by decide)) (by rfl) T.d_p_boiled_down.mg T.d_p_boiled_down.fn.kp T.d_p_boiled_down.b .nil pass0 (pa_cons (pv 1) (pa_cons (pv 2) (pa_cons (pv 3) (pa_cons (pv 6) pa_nil))))))
      (pss_cons (ps_set (i := 10) sc_l_on_the_way_right.nd rfl (by first | exact Or.inl rfl | exact Or.inr rfl) (pe_call (ok_l_plus T) (hr.mono (by decide)) (by rfl) T.d_l_plus.mg T.d_l_plus.fn.kp T.d_l_plus.b .nil pass0 (pa_cons (pv 4) (pa_cons (pe_tupI (pa_cons (pe_un un_neg (pe_ix (ixT (K := K) rfl) (pv 6) pe_int (fun _ _ => rfl))) (pa_cons (pe_ix (ixT (K := K) rfl) (pv 6) pe_int (fun _ _ => rfl)) pa_nil))) pa_nil))))
      (pss_one (ps_ret (pe_and (pe_cmpR op_eq (pe_cmpR (eqDK (K := K) rfl hr.units) (pe_call (ok_p_strength_of T) (hr.mono (by decide)) (by rfl) T.d_p_strength_of.mg T.d_p_strength_of.fn.kp T.d_p_strength_of.b .nil pass0 (pa_cons (pv 9) pa_nil)) (pv 3) (nomark _)) (pe_cmpR (eqDK (K := K) rfl hr.units) (pv 5) (pe_tupI (pa_cons pe_int (pa_cons pe_int pa_nil))) (nomark _)) (nomark _)) (pe_one (pe_call (ok_l_same T) (hr.mono (by decide)) (by rfl) T.d_l_same.mg T.d_l_same.fn.kp T.d_l_same.b .nil pass0 (pa_cons (pe_call (ok_p_ready_in T) (hr.mono (by decide)) (by rfl) T.d_p_ready_in.mg T.d_p_ready_in.fn.kp T.d_p_ready_in.b .nil pass0 (pa_cons (pv 9) (pa_cons (pv 2) (pa_cons (pv 3) pa_nil)))) (pa_cons (pv 10) pa_nil)))))))))))))), ?_⟩
    have une : u ≠ 0 := fun z => by rw [z] at u0; exact absurd u0 (by decide)
    have hf : f.natAbs < 2 ^ 14 := by omega
    obtain ⟨w1, w2, tp, W⟩ := on_way s0 u0 u1 f0 lt et
    refine ⟨_, rfl, p, n, rfl, hB, by omega, fun sh r H1 zr r0 r1 hr1 B1 F1 => ?_⟩
    obtain ⟨w3, w4⟩ := W r r0
    obtain ⟨qs, w5, w6, w7⟩ := w4 r1
    have j1 := hj.fr hB F1
    have m1 := hu.fr hB F1
    have t1 := ht.fr hB F1
    refine ⟨_, rfl, _, rfl, wh, sh, t, r, 420, 4, rfl, t1, hr1, zt, zr, by decide, trivial, fun ah H2 s2 n2 h2 k2 => ?_⟩
    refine ⟨_, rfl, _, rfl, wh, sh, t, r, 420, 4, rfl, t1.same s2, hr1.same s2, zt, zr, by decide, trivial, fun la H3 s3 n3 h3 k3 => ?_⟩
    refine ⟨_, _, rfl, ?_⟩
    have s13 := s2.trans s3
    refine ⟨_, rfl, _, rfl, _, rfl, _, rfl, j, mk, wh, f, s, w, u, t, 133, 133, 420, rfl, j1.same s13, m1.same s13, t1.same s13, zs, zw, zu, zt, hf, une, by decide, by decide, fun at_ H4 s4 h4 => ?_⟩
    rw [w1] at h4
    have zL : Sz 267 (wat s u) := Sz.wat zs zu une
    refine ⟨fun σ' H' => σ' = [some (.ref p), some (.ref j), some (.int f), some (.ref mk), some (.ref wh), some (.ref sh), some (.ref ah), some (.ref la), some (.ref at_), none, none] ∧ Same H4 H', ?_, ?_⟩
    rotate_left
    · -- its strength
      refine ⟨_, rfl, at_, s, wat s u, 267, rfl, h4, zs.up (by decide), zL, by decide, fun v H5 s5 h5 z5 => ?_⟩
      rw [w2] at h5
      obtain ⟨x5, rfl, h5⟩ := h5
      have s15 := s13.trans (s4.trans s5)
      refine ⟨_, rfl, dq u, dq u, h5.dp, (m1.same s15).dp, rfl, rfl, _, rfl, ?_⟩
      rw [eqv_dq, decide_eq_true rfl]
      refine iteF ?_
      have la5 : FrQ K H5 la (t + r) := FrQ.same h3 (s4.trans s5)
      refine ⟨_, rfl, la, t + r, rfl, la5, fun b hb => ⟨_, rfl, ?_⟩⟩
      cases b with
      | false => exact iteF (iteF ⟨rfl, s5⟩)
      | true =>
        refine iteT ⟨_, rfl, _, rfl, _, rfl, _, rfl, j, mk, la, f, s, w, u, t + r, 133, 133, 430, rfl, j1.same s15, m1.same s15, la5, zs, zw, zu, Sz.up k3 (by decide), hf, une, by decide, by decide, fun z H6 s6 h6 => ?_⟩
        rw [w3] at h6
        refine ⟨_, rfl, dj s (wat s u), dj s (wat s u), h6.dp, (h4.same (s5.trans s6)).dp, rfl, rfl, _, rfl, ?_⟩
        rw [SeqAt.eqv_refl _ (SeqAt.canLay_of_shaped (show SeqAt.shaped (dj s (wat s u)) = true from rfl))]
        exact iteF ⟨rfl, s5.trans s6⟩
    rintro σ' H6 ⟨rfl, s46⟩
    have s16 := s13.trans (s4.trans s46)
    have s36 := s4.trans s46
    have ah6 : FrQ K H6 ah (t * r) := FrQ.same h2 (s3.trans s36)
    refine ⟨_, rfl, ah, t * r, rfl, ah6, fun b hb => ⟨_, rfl, ?_⟩⟩
    have F6 : Fr p H H6 := F1.trans (.of s16)
    cases b with
    | false => exact iteT (q H6 (B1.same s16) F6)
    | true =>
      refine iteF ⟨_, rfl, _, rfl, _, rfl, _, rfl, j, mk, ah, f, s, w, u, t * r, 133, 133, 133, rfl, j1.same s16, m1.same s16, ah6, zs, zw, zu, hb rfl, hf, une, by decide, by decide, fun sm H7 s7 h7 => ?_⟩
      have zx : Sz 300 (boil s w f u (t * r)) := Sz.boil zs zu une zw (hb rfl) hf (by decide) (by decide)
      generalize boil s w f u (t * r) = x at *
      have a7 : SqT K H7 ah [.int (t * r).num, .int ((t * r).den : Int)] := ah6.same s7
      refine ⟨_, rfl, _, rfl, ah, _, 0, _, rfl, rfl, a7, at0, _, rfl, _, rfl, ah, _, 1, _, rfl, rfl, a7, at1, rfl, fun y H8 s8 n8 h8 => ?_⟩
      refine ⟨wh, y, t, -(t * r), 420, 133, rfl, t1.same (s16.trans (s7.trans s8)), .of h8, zt, (hb rfl).neg, by decide, trivial, fun lf H9 s9 n9 h9 k9 => ?_⟩
      have e9 : t + -(t * r) = t - t * r := by grind
      have h9 : FrQ K H9 lf (t - t * r) := e9 ▸ h9
      have s79 := s8.trans s9
      have s19 := s16.trans (s7.trans s79)
      refine ⟨_, rfl, sm, s, x, 300, rfl, h7.same s79, zs.up (by decide), zx, by decide, fun v H10 s10 h10 z10 => ?_⟩
      rw [w5] at h10
      obtain ⟨x10, rfl, h10⟩ := h10
      refine ⟨_, rfl, dq qs, dq u, h10.dp, (m1.same (s19.trans s10)).dp, rfl, rfl, ?_⟩
      rw [eqv_dq]
      refine ⟨_, rfl, rfl, fun one H11 s11 n11 h11 => ?_⟩
      refine ⟨dq r, dq ((1 : Int) : Rat), (hr1.same (s19.trans (s10.trans s11))).dp, (FrQ.int h11).dp, rfl, rfl, ?_⟩
      rw [eqv_dq]
      refine ⟨rfl, _, rfl, ?_⟩
      have eb : decide (qs = u) = decide (r = ((1 : Int) : Rat)) := by
        rw [decide_eq_decide]
        exact w6
      rw [eb, decide_eq_true rfl]
      have s711 := s79.trans (s10.trans s11)
      refine iteT ⟨_, rfl, _, rfl, _, rfl, sm, mk, f, s, x, u, 133, 300, rfl, h7.same s711, m1.same (s19.trans (s10.trans s11)), zs, zx, zu, hf, une, by decide, fun v H12 s12 h12 _ => ?_⟩
      rw [w7] at h12
      have D2 : OQ K H12 (.ref lf) (some (t - t * r)) := ⟨lf, rfl, h9.same (s10.trans (s11.trans s12))⟩
      refine ⟨_, rfl, _, _, _, rfl, OQ.dk h12 3, OQ.dk D2 3, fun H13 s13' => ?_⟩
      have sE := s19.trans (s10.trans (s11.trans (s12.trans s13')))
      exact q H13 (B1.same sE) (F1.trans (.of sE))

end
end KR
namespace KR
open PySem PySem.Spec PyProof.Rows L2
section
variable {P : Program} {w : World} {K : PySem.W.Frag} {mg : Str → Option Value} {base : Heap}
def sp_l_right : Sp := fun vs H Q _ => ∃ (p : Addr), vs = [.ref p] ∧ BoxAt H p 0 ∧ ∀ H', Fr p H H' → Q (.bl true) H'
theorem ok_l_right (T : All K mg) : FnOk P w K mg base CX0 8 T.f_l_right T.fd_l_right ["_law_box_here"] sp_l_right := by
  refine T.d_l_right.fn.ok sc_l_right (fun vs H Q E h => ?_) (fun cdv A outer s H vs Q E hr h => ?_)
  · obtain ⟨p, rfl, _⟩ := h
    rfl
  · obtain ⟨p, rfl, hB, q⟩ := h
    refine ⟨_, (pss_cons (ps_for PassesOwn.never rfl (pi_range1 (by rfl) T.b_range (pa_cons pe_int pa_nil)) (pg_name (i := 1) sc_l_right.nd rfl (by first | exact Or.inl rfl | exact Or.inr rfl)) (pss_cons (ps_asg (pe_call (ok_l_case T) (hr.mono (by decide)) (by rfl) T.d_l_case.mg T.d_l_case.fn.kp T.d_l_case.b .nil pass0 (pa_cons (pv 0) pa_nil)) (pg_tupK (K := K) rfl rfl (pgs_cons (pg_name (i := 2) sc_l_right.nd rfl (by first | exact Or.inl rfl | exact Or.inr rfl)) (pgs_cons (pg_name (i := 3) sc_l_right.nd rfl (by first | exact Or.inl rfl | exact Or.inr rfl)) (pgs_cons (pg_name (i := 4) sc_l_right.nd rfl (by first | exact Or.inl rfl | exact Or.inr rfl)) (pgs_cons (pg_name (i := 5) sc_l_right.nd rfl (by first | exact Or.inl rfl | exact Or.inr rfl)) pgs_nil))))))
      (pss_cons (ps_set (i := 6) sc_l_right.nd rfl (by first | exact Or.inl rfl | exact Or.inr rfl) (pe_call (ok_p_ready_in T) (hr.mono (by decide)) (by rfl) T.d_p_ready_in.mg T.d_p_ready_in.fn.kp T.d_p_ready_in.b .nil pass0 (pa_cons (pv 2) (pa_cons (pv 3) (pa_cons (pv 4) pa_nil)))))
      (pss_cons (ps_J (ps_if (PW.pt (pw_or (pt_cmpR op_eq (pe_ix (ixT (K := K) rfl) (pe_ix (ixT (K := K) rfl) (pv 2) pe_int (fun _ _ => rfl)) pe_int (fun _ _ => rfl)) pe_int (nomark _)) (pw_or1 (PW.pt (pw_and (pt_cmpR op_eq (pv 3) pe_int (nomark _)) (pw_and1 (pt_val (pe_call (ok_l_is_less T) (hr.mono (by decide)) (by rfl) T.d_l_is_less.mg T.d_l_is_less.fn.kp T.d_l_is_less.b .nil pass0 (pa_cons (pv 5) (pa_cons (pe_ix (ixT (K := K) rfl) (pv 2) pe_int (fun _ _ => rfl)) pa_nil)))))))))) (pss_one (ps_set (i := 7) sc_l_right.nd rfl (by first | exact Or.inl rfl | exact Or.inr rfl) pe_non)) (pss_one (ps_if (pt_not (pt_val (pe_call (ok_l_is_less T) (hr.mono (by decide)) (by rfl) T.d_l_is_less.mg T.d_l_is_less.fn.kp T.d_l_is_less.b .nil pass0 (pa_cons (pv 5) (pa_cons (pe_ix (ixT (K := K) rfl) (pv 2) pe_int (fun _ _ => rfl)) pa_nil))))) (pss_one (ps_set (i := 7) sc_l_right.nd rfl (by first | exact Or.inl rfl | exact Or.inr rfl) (pe_tupI (pa_cons pe_int (pa_cons pe_int pa_nil))))) (pss_cons (ps_set (i := 8) sc_l_right.nd rfl (by first | exact Or.inl rfl | exact Or.inr rfl) (pe_call (ok_l_plus T) (hr.mono (by decide)) (by rfl) T.d_l_plus.mg T.d_l_plus.fn.kp T.d_l_plus.b .nil pass0 (pa_cons (pe_ix (ixT (K := K) rfl) (pv 2) pe_int (fun _ _ => rfl)) (pa_cons (pe_tupI (pa_cons (pe_un un_neg (pe_ix (ixT (K := K) rfl) (pv 5) pe_int (fun _ _ => rfl))) (pa_cons (pe_ix (ixT (K := K) rfl) (pv 5) pe_int (fun _ _ => rfl)) pa_nil))) pa_nil))))
      (pss_one (ps_set (i := 7) sc_l_right.nd rfl (by first | exact Or.inl rfl | exact Or.inr rfl) (pe_call (ok_l_low T) (hr.mono (by decide)) (by rfl) T.d_l_low.mg T.d_l_low.fn.kp T.d_l_low.b .nil pass0 (pa_cons (pe_ix (ixT (K := K) rfl) (pv 8) pe_int (fun _ _ => rfl)) (pa_cons (pe_op op_mulX (pe_ix (ixT (K := K) rfl) (pv 8) pe_int (fun _ _ => rfl)) (pv 3)) pa_nil))))))))))
      (pss_cons (ps_if (pt_not (pt_val (pe_call (ok_l_same T) (hr.mono (by decide)) (by rfl) T.d_l_same.mg T.d_l_same.fn.kp T.d_l_same.b .nil pass0 (pa_cons (pv 6) (pa_cons (pv 7) pa_nil))))) (pss_one (ps_ret pe_bl)) pss_nil)
      (pss_one (ps_if (PW.pt (pw_and (pt_cmpR (notTup (K := K) rfl hr.units) (pv 7) (pe_tupI (pa_cons pe_non (pa_cons (pe_tupI (pa_cons pe_int (pa_cons pe_int pa_nil))) pa_nil))) (by with_unfolding_all rfl)) (pw_and1 (pt_not (pt_val (pe_call (ok_l_on_the_way_right T) hr (by rfl) T.d_l_on_the_way_right.mg T.d_l_on_the_way_right.fn.kp T.d_l_on_the_way_right.b .nil pass0 (pa_cons (pv 0) (pa_cons (pv 2) (pa_cons (pv 3) (pa_cons (pv 4) (pa_cons (pv 6) pa_nil))))))))))) (pss_one (ps_ret pe_bl)) pss_nil)))))))
      (pss_one (ps_ret pe_bl))), ?_⟩
    refine ⟨6, rfl, by decide, by decide, for_range (lo := 0) (n := 6) (fun i σ H' => ∃ v1 v2 v3 v4 v5 v6 v7 v8 : Option V, σ = [some (.ref p), v1, v2, v3, v4, v5, v6, v7, v8] ∧ BoxAt H' p (40 * i) ∧ Fr p H H')
      ⟨none, none, none, none, none, none, none, none, rfl, hB, Fr.refl⟩ ?_ ?_⟩
    · rintro i σ H0 hi ⟨v1, v2, v3, v4, v5, v6, v7, v8, rfl, B, F⟩
      refine ⟨_, rfl, p, 40 * i, rfl, B, by omega, fun c j mk l f s w u H1 hc hj hu hl zs zw zu ns u0 u1 f0 f9 B1 F1 => ?_⟩
      have une : u ≠ 0 := fun z => by rw [z] at u0; exact absurd u0 (by decide)
      have hf : f.natAbs < 2 ^ 14 := by omega
      refine ⟨c, _, rfl, SqT.of hc, rfl, _, _, rfl, _, _, rfl, _, _, rfl, _, _, rfl, rfl, ?_⟩
      refine ⟨_, rfl, _, rfl, _, rfl, j, mk, f, s, w, u, 133, 133, rfl, hj, hu, zs, zw, zu, hf, une, by decide, fun fd H2 s2 h2 z2 => ?_⟩
      obtain ⟨x1, x2, jj, h1, hx2⟩ := hj.same s2
      have h1' : SqT K H2 x1 [.int s.num, .int (s.den : Int)] := h1
      have l2 := hl.same s2
      have l2' : SqT K H2 l [.int (wat s u).num, .int ((wat s u).den : Int)] := l2
      have zL : Sz 267 (wat s u) := Sz.wat zs zu une
      refine ⟨fun σ' H' => ∃ (d : V) (v8 : Option V), σ' = [some (.ref p), some (.int (0 + (i : Int))), some (.ref j), some (.int f), some (.ref mk), some (.ref l), some fd, some d, v8] ∧ OQ K H' d (ready s w f u) ∧ Same H2 H', ?_, ?_⟩
      rotate_left
      · refine ⟨_, rfl, j, _, 0, _, rfl, rfl, jj, at0, x1, _, 0, _, rfl, rfl, h1', at0, rfl, _, rfl, ite2 (fun c => iteT ?_) (fun c => ⟨_, rfl, rfl, _, rfl, ite2 (fun c2 => ⟨_, rfl, _, rfl, j, _, 1, _, rfl, rfl, jj, at1, l, x2, _, _, rfl, l2, hx2, zL.up (by decide), zw.up (by decide), _, rfl, ite2 (fun c3 => ?_) (fun c3 => ?_)⟩) (fun c2 => iteF ?_)⟩)⟩
        · have s0 : s = 0 := num_zero.mp (V.int.inj (of_decide_eq_true c))
          have e : ready s w f u = none := if_pos s0
          exact ⟨_, _, rfl, by rw [e] <;> rfl, .refl _⟩
        · have e : ready s w f u = none := by
            unfold ready
            rw [if_pos (show wat s u < w from of_decide_eq_true c3), if_pos (show f = 0 from V.int.inj (of_decide_eq_true c2)), ite_self]
          exact ⟨_, _, rfl, by rw [e] <;> rfl, .refl _⟩
        all_goals
          have s0 : s ≠ 0 := fun z => c (by rw [z] <;> exact decide_eq_true rfl)
          have key : f = 0 → ¬ wat s u < w := by
            first
              | exact fun _ => of_decide_eq_false (Bool.eq_false_iff.mpr c3)
              | exact fun z => absurd (show decide (V.int f = V.int 0) = true from decide_eq_true (congrArg V.int z)) c2
          refine ⟨_, rfl, _, rfl, j, _, 1, _, rfl, rfl, jj, at1, l, x2, _, _, rfl, l2, hx2, zL.up (by decide), zw.up (by decide), _, rfl, ite2 (fun cc => ?_) (fun cc => ?_)⟩
          · have c1 : ¬ wat s u < w := by simpa using cc
            have e : ready s w f u = some 0 := (if_neg s0).trans (if_neg c1)
            refine ⟨rfl, fun a H3 s3 n3 h3 => ⟨.ref a, _, rfl, ?_, s3⟩⟩
            rw [e]
            exact ⟨a, rfl, FrQ.int (z := 0) h3⟩
          · have c1 : wat s u < w := by simpa using cc
            have fne : f ≠ 0 := fun z => key z c1
            have e : ready s w f u = some ((w - wat s u) / (f : Rat)) := (if_neg s0).trans ((if_pos c1).trans (if_neg fne))
            refine ⟨_, rfl, j, _, 1, _, rfl, rfl, jj, at1, _, rfl, l, _, 0, _, rfl, rfl, l2', at0, _, rfl, _, rfl, l, _, 1, _, rfl, rfl, l2', at1, rfl, fun y H3 s3 n3 h3 => ?_⟩
            refine ⟨x2, y, w, -(wat s u), 133, 267, rfl, hx2.same s3, .of h3, zw, zL.neg, by decide, trivial, fun o H4 s4 n4 h4 k4 => ?_⟩
            have e4 : w + -(wat s u) = w - wat s u := by grind
            have h4' : SqT K H4 o [.int (w - wat s u).num, .int ((w - wat s u).den : Int)] := (show FrQ K H4 o (w - wat s u) from e4 ▸ h4)
            have k4 : Sz 401 (w - wat s u) := e4 ▸ k4
            obtain ⟨r1, r2⟩ := k4
            refine ⟨_, rfl, o, _, 0, _, rfl, rfl, h4', at0, _, rfl, o, _, 1, _, rfl, rfl, h4', at1, _, rfl, _, _, rfl, rfl, mulZ r2 hf (by omega), ?_⟩
            refine ⟨_, _, 416, rfl, Int.mul_ne_zero (den_ne' _) fne, lt_up r1 (by omega), lt_up (wide_lt r2 hf) (by omega), by omega, fun a H5 s5 n5 h5 k5 => ?_⟩
            rw [rq_divi] at h5
            refine ⟨.ref a, _, rfl, ?_, s3.trans (s4.trans s5)⟩
            rw [e]
            exact ⟨a, rfl, h5⟩
      rintro σ' H3 ⟨d, v8, rfl, hd, s23⟩
      refine ⟨_, rfl, _, rfl, _, _, _, rfl, OQ.dk (h2.same s23) 3, OQ.dk hd 3, fun H4 s4 => ⟨true, rfl, iteF ?_⟩⟩
      have d4 := hd.same s4
      refine ⟨_, rfl, rfl, fun a H5 s5 n5 h5 => ⟨rfl, fun b H6 s6 n6 h6 => ?_⟩⟩
      have s46 := s5.trans s6
      have s16 := s2.trans (s23.trans (s4.trans s46))
      have B6 := B1.same s16
      have FE : Fr p H H6 := F.trans (F1.trans (.of s16))
      refine ⟨oq (ready s w f u), [.none, dq ((0 : Int) : Rat)], (d4.same s46).dp, .tup (SqT.of h6) (.cons .non (.cons (FrQ.dp (.same (.int h5) s6)) .nil)), (oq_fit _).1, rfl, (oq_fit _).2, _, rfl, ?_⟩
      have fd6 := h2.same (s23.trans (s4.trans s46))
      generalize eo : ready s w f u = o at *
      cases o with
      | none => exact iteF (iteF ⟨_, _, _, _, _, _, _, _, rfl, B6.mono (by omega), FE⟩)
      | some t =>
        have ev : (!([.none, dq ((0 : Int) : Rat)] : List PyData).any fun z => PyData.eqv z (oq (some t))) = !decide (((0 : Int) : Rat) = t) := by
          show (!(PyData.eqv .none (dq t) || (PyData.eqv (dq ((0 : Int) : Rat)) (dq t) || false))) = _
          rw [eqv_dq, Bool.or_false, show PyData.eqv .none (dq t) = false from rfl, Bool.false_or]
        rw [ev]
        refine ite2 (fun c => ?_) (fun c => iteF ⟨_, _, _, _, _, _, _, _, rfl, B6.mono (by omega), FE⟩)
        have tne : t ≠ 0 := fun z => by rw [z] at c; exact absurd c (by decide)
        obtain ⟨xf, rfl, hxf⟩ := fd6
        have facts : s ≠ 0 ∧ wat s u < w ∧ f ≠ 0 ∧ t = (w - wat s u) / (f : Rat) := by
          unfold ready at eo
          split at eo
          · cases eo
          · rename_i a1
            split at eo
            · rename_i a2
              split at eo
              · cases eo
              · rename_i a3
                exact ⟨a1, a2, a3, (Option.some.inj eo).symm⟩
            · exact absurd (Option.some.inj eo).symm tne
        obtain ⟨g1, g2, g3, g4⟩ := facts
        refine ⟨_, rfl, _, rfl, _, rfl, _, rfl, _, rfl, p, j, mk, xf, 40 * i + 30, f, s, w, u, t, rfl, B6, by omega, hj.same s16, hu.same s16, hxf, zs, zw, zu, (z2 t rfl).up (by decide), by grind, u0, u1, by omega, f9, g2, g4, fun H7 B7 F7 => ?_⟩
        exact ⟨true, rfl, iteF ⟨_, _, _, _, _, _, _, _, rfl, B7.mono (by omega), FE.trans F7⟩⟩
    · rintro σ H0 ⟨v1, v2, v3, v4, v5, v6, v7, v8, rfl, B, F⟩
      exact q H0 F

end
end KR
namespace KR
open PySem PySem.Spec PyProof.Rows L2
section
variable {P : Program} {w : World} {K : PySem.W.Frag} {mg : Str → Option Value} {base : Heap}
def sp_p_law (K : PySem.W.Frag) : Sp := fun vs H Q _ => ∃ (a : Addr) (ns : List Int), vs = [.ref a] ∧ SqL K H a (ns.map V.int) ∧ ns.length ≤ 63 ∧ ∀ H', Q (.bl true) H'
theorem ok_p_law (T : All K mg) : FnOk P w K mg base CX0 9 T.f_p_law T.fd_p_law ["_law_script"] (sp_p_law K) := by
  refine T.d_p_law.fn.ok sc_p_law (fun vs H Q E h => ?_) (fun cdv A outer s H vs Q E hr h => ?_)
  · obtain ⟨a, ns, rfl, _⟩ := h
    rfl
  · obtain ⟨a, ns, rfl, hS, hlen, q⟩ := h
    refine ⟨_, (pss_one (ps_ret (pe_callB (allK (K := K) rfl rfl) (by rfl) T.b_all (by decide +kernel) (pa_cons (pe_lc (own := [("_law_k", 1)]) (g := gName 1) (tt := tYes) (by rfl) sc_p_law.nd (pi_range1 (by rfl) T.b_range (pa_cons (pe_op op_add pe_int (pe_callB (call_min2 rfl) (by rfl) T.b_min (by decide +kernel) (pa_cons pe_int (pa_cons (pe_callB (lenQ (K := K) rfl) (by rfl) T.b_len PySem.boot_len (pa_cons (pv 0) pa_nil)) pa_nil)))) pa_nil)) (blkOk_by (own := [("_law_k", 1)]) (N := ["_law_script", "_law_k"]) (sc := defScope s_p_law) (by decide +kernel)) (fun _ _ _ _ _ => (pg_name (i := 1) sc_p_law.nd rfl (by first | exact Or.inl rfl | exact Or.inr rfl))) (fun _ _ _ _ _ => pts_nil) (fun _ _ _ _ _ => (pe_call (ok_l_right T) hr (by rfl) T.d_l_right.mg T.d_l_right.fn.kp T.d_l_right.b .nil pass0 (pa_cons (pe_call (ok_l_box T) (hr.mono (by decide)) (by rfl) T.d_l_box.mg T.d_l_box.fn.kp T.d_l_box.b .nil pass0 (pa_cons (pv 0) (pa_cons (pv 1) pa_nil))) pa_nil)))) pa_nil)))), ?_⟩
    refine ⟨_, rfl, a, _, rfl, .inl hS, _, _, rfl, _, _, rfl, rfl, _, rfl, ?_⟩
    rw [List.length_map]
    obtain ⟨m, em, m1, m2⟩ : ∃ m : Nat, (1 + (if (ns.length : Int) < 5 then (ns.length : Int) else 5)) = (m : Int) ∧ 1 ≤ m ∧ m ≤ 64 := by
      refine ⟨(1 + (if (ns.length : Int) < 5 then (ns.length : Int) else 5)).toNat, ?_, ?_, ?_⟩ <;> split <;> omega
    dsimp only
    rw [em]
    refine ⟨by omega, by omega, fun D hD => ?_⟩
    refine lc_range (lo := 0) (n := m) (fun i H' => Same H H' ∧ H' D = some (.lst (List.replicate i (.bl true)))) ⟨same_new hD, upd_same⟩ (fun i H1 hi z => ?_) (fun H1 z => ?_)
    · obtain ⟨sm, hd⟩ := z
      refine ⟨rfl, yesT ?_⟩
      refine ⟨_, rfl, _, rfl, a, ns, _, rfl, sm.seq hS, by omega, by omega, fun p H2 s2 n2 B2 => ?_⟩
      refine ⟨p, rfl, B2, fun H3 F3 => ?_⟩
      have hd2 := s2 _ _ hd
      have dp : D ≠ p := ne_of_none hd n2
      have s3 : Same H1 H3 := fun b o e => F3 b o (ne_of_none e n2) (s2 b o e)
      have hd3 := s3 _ _ hd
      refine ⟨_, hd3, by rw [List.length_replicate]; exact small' (by omega), Same.put (sm.trans s3) hD, ?_⟩
      rw [upd_same, List.replicate_succ'] <;> rfl
    · obtain ⟨sm, hd⟩ := z
      obtain ⟨t1, t2⟩ := all_true m
      refine ⟨D, List.replicate m true, rfl, SqL.of (by rw [t1]; exact hd), ?_⟩
      rw [t2]
      exact q H1

end
end KR
namespace KR
open PySem PySem.Spec PyProof.Rows L2
theorem all_mk {l : PySem.W.OpenLaw} {w : World} {K : PySem.W.Frag} {h : Heap} {mg : Str → Option Value} {fa : Addr} (X : K.In h) (G : h.Ns mainGlobals mg) (hfa : mg "law" = some (.ref fa))
    {od0 an0 : Option Addr} {sl0 : Array (Option Value)} {oc0 kV0 dc0 pm0 cd0 ct0 : Value} {f0 : Addr}
    (a0 : PySem.W.nsIn K mainGlobals "is_number" = some (some (.ref f0))) (l0 : K.lookup f0 = some ⟨oc0, od0, .func (PySem.W.fnOf "is_number" "is_number" (defArgs s_p_is_number) (defBody s_p_is_number) (defScope s_p_is_number) .none kV0 dc0 pm0 an0 cd0 ct0), sl0⟩) (c0 : PySem.W.codeIn K cd0 "is_number" = true) (k0 : PySem.W.keepIn K (.ref f0) = true)
    {od1 an1 : Option Addr} {sl1 : Array (Option Value)} {oc1 kV1 dc1 pm1 cd1 ct1 : Value} {f1 : Addr}
    (a1 : PySem.W.nsIn K mainGlobals "is_frac" = some (some (.ref f1))) (l1 : K.lookup f1 = some ⟨oc1, od1, .func (PySem.W.fnOf "is_frac" "is_frac" (defArgs s_p_is_frac) (defBody s_p_is_frac) (defScope s_p_is_frac) .none kV1 dc1 pm1 an1 cd1 ct1), sl1⟩) (c1 : PySem.W.codeIn K cd1 "is_frac" = true) (k1 : PySem.W.keepIn K (.ref f1) = true)
    {od2 an2 : Option Addr} {sl2 : Array (Option Value)} {oc2 kV2 dc2 pm2 cd2 ct2 : Value} {f2 : Addr}
    (a2 : PySem.W.nsIn K mainGlobals "frac_of" = some (some (.ref f2))) (l2 : K.lookup f2 = some ⟨oc2, od2, .func (PySem.W.fnOf "frac_of" "frac_of" (defArgs s_p_frac_of) (defBody s_p_frac_of) (defScope s_p_frac_of) .none kV2 dc2 pm2 an2 cd2 ct2), sl2⟩) (c2 : PySem.W.codeIn K cd2 "frac_of" = true) (k2 : PySem.W.keepIn K (.ref f2) = true)
    {od3 an3 : Option Addr} {sl3 : Array (Option Value)} {oc3 kV3 dc3 pm3 cd3 ct3 : Value} {f3 : Addr}
    (a3 : PySem.W.nsIn K mainGlobals "sum_of" = some (some (.ref f3))) (l3 : K.lookup f3 = some ⟨oc3, od3, .func (PySem.W.fnOf "sum_of" "sum_of" (defArgs s_p_sum_of) (defBody s_p_sum_of) (defScope s_p_sum_of) .none kV3 dc3 pm3 an3 cd3 ct3), sl3⟩) (c3 : PySem.W.codeIn K cd3 "sum_of" = true) (k3 : PySem.W.keepIn K (.ref f3) = true)
    {od4 an4 : Option Addr} {sl4 : Array (Option Value)} {oc4 kV4 dc4 pm4 cd4 ct4 : Value} {f4 : Addr}
    (a4 : PySem.W.nsIn K mainGlobals "difference" = some (some (.ref f4))) (l4 : K.lookup f4 = some ⟨oc4, od4, .func (PySem.W.fnOf "difference" "difference" (defArgs s_p_difference) (defBody s_p_difference) (defScope s_p_difference) .none kV4 dc4 pm4 an4 cd4 ct4), sl4⟩) (c4 : PySem.W.codeIn K cd4 "difference" = true) (k4 : PySem.W.keepIn K (.ref f4) = true)
    {od5 an5 : Option Addr} {sl5 : Array (Option Value)} {oc5 kV5 dc5 pm5 cd5 ct5 : Value} {f5 : Addr}
    (a5 : PySem.W.nsIn K mainGlobals "product" = some (some (.ref f5))) (l5 : K.lookup f5 = some ⟨oc5, od5, .func (PySem.W.fnOf "product" "product" (defArgs s_p_product) (defBody s_p_product) (defScope s_p_product) .none kV5 dc5 pm5 an5 cd5 ct5), sl5⟩) (c5 : PySem.W.codeIn K cd5 "product" = true) (k5 : PySem.W.keepIn K (.ref f5) = true)
    {od6 an6 : Option Addr} {sl6 : Array (Option Value)} {oc6 kV6 dc6 pm6 cd6 ct6 : Value} {f6 : Addr}
    (a6 : PySem.W.nsIn K mainGlobals "quotient" = some (some (.ref f6))) (l6 : K.lookup f6 = some ⟨oc6, od6, .func (PySem.W.fnOf "quotient" "quotient" (defArgs s_p_quotient) (defBody s_p_quotient) (defScope s_p_quotient) .none kV6 dc6 pm6 an6 cd6 ct6), sl6⟩) (c6 : PySem.W.codeIn K cd6 "quotient" = true) (k6 : PySem.W.keepIn K (.ref f6) = true)
    {od7 an7 : Option Addr} {sl7 : Array (Option Value)} {oc7 kV7 dc7 pm7 cd7 ct7 : Value} {f7 : Addr}
    (a7 : PySem.W.nsIn K mainGlobals "is_lesser" = some (some (.ref f7))) (l7 : K.lookup f7 = some ⟨oc7, od7, .func (PySem.W.fnOf "is_lesser" "is_lesser" (defArgs s_p_is_lesser) (defBody s_p_is_lesser) (defScope s_p_is_lesser) .none kV7 dc7 pm7 an7 cd7 ct7), sl7⟩) (c7 : PySem.W.codeIn K cd7 "is_lesser" = true) (k7 : PySem.W.keepIn K (.ref f7) = true)
    {od8 an8 : Option Addr} {sl8 : Array (Option Value)} {oc8 kV8 dc8 pm8 cd8 ct8 : Value} {f8 : Addr}
    (a8 : PySem.W.nsIn K mainGlobals "water_at" = some (some (.ref f8))) (l8 : K.lookup f8 = some ⟨oc8, od8, .func (PySem.W.fnOf "water_at" "water_at" (defArgs s_p_water_at) (defBody s_p_water_at) (defScope s_p_water_at) .none kV8 dc8 pm8 an8 cd8 ct8), sl8⟩) (c8 : PySem.W.codeIn K cd8 "water_at" = true) (k8 : PySem.W.keepIn K (.ref f8) = true)
    {od9 an9 : Option Addr} {sl9 : Array (Option Value)} {oc9 kV9 dc9 pm9 cd9 ct9 : Value} {f9 : Addr}
    (a9 : PySem.W.nsIn K mainGlobals "boiled_down" = some (some (.ref f9))) (l9 : K.lookup f9 = some ⟨oc9, od9, .func (PySem.W.fnOf "boiled_down" "boiled_down" (defArgs s_p_boiled_down) (defBody s_p_boiled_down) (defScope s_p_boiled_down) .none kV9 dc9 pm9 an9 cd9 ct9), sl9⟩) (c9 : PySem.W.codeIn K cd9 "boiled_down" = true) (k9 : PySem.W.keepIn K (.ref f9) = true)
    {od10 an10 : Option Addr} {sl10 : Array (Option Value)} {oc10 kV10 dc10 pm10 cd10 ct10 : Value} {f10 : Addr}
    (a10 : PySem.W.nsIn K mainGlobals "ready_in" = some (some (.ref f10))) (l10 : K.lookup f10 = some ⟨oc10, od10, .func (PySem.W.fnOf "ready_in" "ready_in" (defArgs s_p_ready_in) (defBody s_p_ready_in) (defScope s_p_ready_in) .none kV10 dc10 pm10 an10 cd10 ct10), sl10⟩) (c10 : PySem.W.codeIn K cd10 "ready_in" = true) (k10 : PySem.W.keepIn K (.ref f10) = true)
    {od11 an11 : Option Addr} {sl11 : Array (Option Value)} {oc11 kV11 dc11 pm11 cd11 ct11 : Value} {f11 : Addr}
    (a11 : PySem.W.nsIn K mainGlobals "volume_of" = some (some (.ref f11))) (l11 : K.lookup f11 = some ⟨oc11, od11, .func (PySem.W.fnOf "volume_of" "volume_of" (defArgs s_p_volume_of) (defBody s_p_volume_of) (defScope s_p_volume_of) .none kV11 dc11 pm11 an11 cd11 ct11), sl11⟩) (c11 : PySem.W.codeIn K cd11 "volume_of" = true) (k11 : PySem.W.keepIn K (.ref f11) = true)
    {od12 an12 : Option Addr} {sl12 : Array (Option Value)} {oc12 kV12 dc12 pm12 cd12 ct12 : Value} {f12 : Addr}
    (a12 : PySem.W.nsIn K mainGlobals "strength_of" = some (some (.ref f12))) (l12 : K.lookup f12 = some ⟨oc12, od12, .func (PySem.W.fnOf "strength_of" "strength_of" (defArgs s_p_strength_of) (defBody s_p_strength_of) (defScope s_p_strength_of) .none kV12 dc12 pm12 an12 cd12 ct12), sl12⟩) (c12 : PySem.W.codeIn K cd12 "strength_of" = true) (k12 : PySem.W.keepIn K (.ref f12) = true)
    {od13 an13 : Option Addr} {sl13 : Array (Option Value)} {oc13 kV13 dc13 pm13 cd13 ct13 : Value} {f13 : Addr}
    (a13 : PySem.W.nsIn K mainGlobals "_law_cell_at" = some (some (.ref f13))) (l13 : K.lookup f13 = some ⟨oc13, od13, .func (PySem.W.fnOf "_law_cell_at" "_law_cell_at" (defArgs s_l_cell_at) (defBody s_l_cell_at) (defScope s_l_cell_at) .none kV13 dc13 pm13 an13 cd13 ct13), sl13⟩) (c13 : PySem.W.codeIn K cd13 "_law_cell_at" = true) (k13 : PySem.W.keepIn K (.ref f13) = true)
    {od14 an14 : Option Addr} {sl14 : Array (Option Value)} {oc14 kV14 dc14 pm14 cd14 ct14 : Value} {f14 : Addr}
    (a14 : PySem.W.nsIn K mainGlobals "_law_box" = some (some (.ref f14))) (l14 : K.lookup f14 = some ⟨oc14, od14, .func (PySem.W.fnOf "_law_box" "_law_box" (defArgs s_l_box) (defBody s_l_box) (defScope s_l_box) .none kV14 dc14 pm14 an14 cd14 ct14), sl14⟩) (c14 : PySem.W.codeIn K cd14 "_law_box" = true) (k14 : PySem.W.keepIn K (.ref f14) = true)
    {od15 an15 : Option Addr} {sl15 : Array (Option Value)} {oc15 kV15 dc15 pm15 cd15 ct15 : Value} {f15 : Addr}
    (a15 : PySem.W.nsIn K mainGlobals "_law_take" = some (some (.ref f15))) (l15 : K.lookup f15 = some ⟨oc15, od15, .func (PySem.W.fnOf "_law_take" "_law_take" (defArgs s_l_take) (defBody s_l_take) (defScope s_l_take) .none kV15 dc15 pm15 an15 cd15 ct15), sl15⟩) (c15 : PySem.W.codeIn K cd15 "_law_take" = true) (k15 : PySem.W.keepIn K (.ref f15) = true)
    {od16 an16 : Option Addr} {sl16 : Array (Option Value)} {oc16 kV16 dc16 pm16 cd16 ct16 : Value} {f16 : Addr}
    (a16 : PySem.W.nsIn K mainGlobals "_law_low" = some (some (.ref f16))) (l16 : K.lookup f16 = some ⟨oc16, od16, .func (PySem.W.fnOf "_law_low" "_law_low" (defArgs s_l_low) (defBody s_l_low) (defScope s_l_low) .none kV16 dc16 pm16 an16 cd16 ct16), sl16⟩) (c16 : PySem.W.codeIn K cd16 "_law_low" = true) (k16 : PySem.W.keepIn K (.ref f16) = true)
    {od17 an17 : Option Addr} {sl17 : Array (Option Value)} {oc17 kV17 dc17 pm17 cd17 ct17 : Value} {f17 : Addr}
    (a17 : PySem.W.nsIn K mainGlobals "_law_plus" = some (some (.ref f17))) (l17 : K.lookup f17 = some ⟨oc17, od17, .func (PySem.W.fnOf "_law_plus" "_law_plus" (defArgs s_l_plus) (defBody s_l_plus) (defScope s_l_plus) .none kV17 dc17 pm17 an17 cd17 ct17), sl17⟩) (c17 : PySem.W.codeIn K cd17 "_law_plus" = true) (k17 : PySem.W.keepIn K (.ref f17) = true)
    {od18 an18 : Option Addr} {sl18 : Array (Option Value)} {oc18 kV18 dc18 pm18 cd18 ct18 : Value} {f18 : Addr}
    (a18 : PySem.W.nsIn K mainGlobals "_law_by" = some (some (.ref f18))) (l18 : K.lookup f18 = some ⟨oc18, od18, .func (PySem.W.fnOf "_law_by" "_law_by" (defArgs s_l_by) (defBody s_l_by) (defScope s_l_by) .none kV18 dc18 pm18 an18 cd18 ct18), sl18⟩) (c18 : PySem.W.codeIn K cd18 "_law_by" = true) (k18 : PySem.W.keepIn K (.ref f18) = true)
    {od19 an19 : Option Addr} {sl19 : Array (Option Value)} {oc19 kV19 dc19 pm19 cd19 ct19 : Value} {f19 : Addr}
    (a19 : PySem.W.nsIn K mainGlobals "_law_frac" = some (some (.ref f19))) (l19 : K.lookup f19 = some ⟨oc19, od19, .func (PySem.W.fnOf "_law_frac" "_law_frac" (defArgs s_l_frac) (defBody s_l_frac) (defScope s_l_frac) .none kV19 dc19 pm19 an19 cd19 ct19), sl19⟩) (c19 : PySem.W.codeIn K cd19 "_law_frac" = true) (k19 : PySem.W.keepIn K (.ref f19) = true)
    {od20 an20 : Option Addr} {sl20 : Array (Option Value)} {oc20 kV20 dc20 pm20 cd20 ct20 : Value} {f20 : Addr}
    (a20 : PySem.W.nsIn K mainGlobals "_law_share" = some (some (.ref f20))) (l20 : K.lookup f20 = some ⟨oc20, od20, .func (PySem.W.fnOf "_law_share" "_law_share" (defArgs s_l_share) (defBody s_l_share) (defScope s_l_share) .none kV20 dc20 pm20 an20 cd20 ct20), sl20⟩) (c20 : PySem.W.codeIn K cd20 "_law_share" = true) (k20 : PySem.W.keepIn K (.ref f20) = true)
    {od21 an21 : Option Addr} {sl21 : Array (Option Value)} {oc21 kV21 dc21 pm21 cd21 ct21 : Value} {f21 : Addr}
    (a21 : PySem.W.nsIn K mainGlobals "_law_same" = some (some (.ref f21))) (l21 : K.lookup f21 = some ⟨oc21, od21, .func (PySem.W.fnOf "_law_same" "_law_same" (defArgs s_l_same) (defBody s_l_same) (defScope s_l_same) .none kV21 dc21 pm21 an21 cd21 ct21), sl21⟩) (c21 : PySem.W.codeIn K cd21 "_law_same" = true) (k21 : PySem.W.keepIn K (.ref f21) = true)
    {od22 an22 : Option Addr} {sl22 : Array (Option Value)} {oc22 kV22 dc22 pm22 cd22 ct22 : Value} {f22 : Addr}
    (a22 : PySem.W.nsIn K mainGlobals "_law_juice" = some (some (.ref f22))) (l22 : K.lookup f22 = some ⟨oc22, od22, .func (PySem.W.fnOf "_law_juice" "_law_juice" (defArgs s_l_juice) (defBody s_l_juice) (defScope s_l_juice) .none kV22 dc22 pm22 an22 cd22 ct22), sl22⟩) (c22 : PySem.W.codeIn K cd22 "_law_juice" = true) (k22 : PySem.W.keepIn K (.ref f22) = true)
    {od23 an23 : Option Addr} {sl23 : Array (Option Value)} {oc23 kV23 dc23 pm23 cd23 ct23 : Value} {f23 : Addr}
    (a23 : PySem.W.nsIn K mainGlobals "_law_mark" = some (some (.ref f23))) (l23 : K.lookup f23 = some ⟨oc23, od23, .func (PySem.W.fnOf "_law_mark" "_law_mark" (defArgs s_l_mark) (defBody s_l_mark) (defScope s_l_mark) .none kV23 dc23 pm23 an23 cd23 ct23), sl23⟩) (c23 : PySem.W.codeIn K cd23 "_law_mark" = true) (k23 : PySem.W.keepIn K (.ref f23) = true)
    {od24 an24 : Option Addr} {sl24 : Array (Option Value)} {oc24 kV24 dc24 pm24 cd24 ct24 : Value} {f24 : Addr}
    (a24 : PySem.W.nsIn K mainGlobals "_law_is_less" = some (some (.ref f24))) (l24 : K.lookup f24 = some ⟨oc24, od24, .func (PySem.W.fnOf "_law_is_less" "_law_is_less" (defArgs s_l_is_less) (defBody s_l_is_less) (defScope s_l_is_less) .none kV24 dc24 pm24 an24 cd24 ct24), sl24⟩) (c24 : PySem.W.codeIn K cd24 "_law_is_less" = true) (k24 : PySem.W.keepIn K (.ref f24) = true)
    {od25 an25 : Option Addr} {sl25 : Array (Option Value)} {oc25 kV25 dc25 pm25 cd25 ct25 : Value} {f25 : Addr}
    (a25 : PySem.W.nsIn K mainGlobals "_law_is_small" = some (some (.ref f25))) (l25 : K.lookup f25 = some ⟨oc25, od25, .func (PySem.W.fnOf "_law_is_small" "_law_is_small" (defArgs s_l_is_small) (defBody s_l_is_small) (defScope s_l_is_small) .none kV25 dc25 pm25 an25 cd25 ct25), sl25⟩) (c25 : PySem.W.codeIn K cd25 "_law_is_small" = true) (k25 : PySem.W.keepIn K (.ref f25) = true)
    {od26 an26 : Option Addr} {sl26 : Array (Option Value)} {oc26 kV26 dc26 pm26 cd26 ct26 : Value} {f26 : Addr}
    (a26 : PySem.W.nsIn K mainGlobals "_law_case" = some (some (.ref f26))) (l26 : K.lookup f26 = some ⟨oc26, od26, .func (PySem.W.fnOf "_law_case" "_law_case" (defArgs s_l_case) (defBody s_l_case) (defScope s_l_case) .none kV26 dc26 pm26 an26 cd26 ct26), sl26⟩) (c26 : PySem.W.codeIn K cd26 "_law_case" = true) (k26 : PySem.W.keepIn K (.ref f26) = true)
    {od27 an27 : Option Addr} {sl27 : Array (Option Value)} {oc27 kV27 dc27 pm27 cd27 ct27 : Value} {f27 : Addr}
    (a27 : PySem.W.nsIn K mainGlobals "_law_on_the_way_right" = some (some (.ref f27))) (l27 : K.lookup f27 = some ⟨oc27, od27, .func (PySem.W.fnOf "_law_on_the_way_right" "_law_on_the_way_right" (defArgs s_l_on_the_way_right) (defBody s_l_on_the_way_right) (defScope s_l_on_the_way_right) .none kV27 dc27 pm27 an27 cd27 ct27), sl27⟩) (c27 : PySem.W.codeIn K cd27 "_law_on_the_way_right" = true) (k27 : PySem.W.keepIn K (.ref f27) = true)
    {od28 an28 : Option Addr} {sl28 : Array (Option Value)} {oc28 kV28 dc28 pm28 cd28 ct28 : Value} {f28 : Addr}
    (a28 : PySem.W.nsIn K mainGlobals "_law_right" = some (some (.ref f28))) (l28 : K.lookup f28 = some ⟨oc28, od28, .func (PySem.W.fnOf "_law_right" "_law_right" (defArgs s_l_right) (defBody s_l_right) (defScope s_l_right) .none kV28 dc28 pm28 an28 cd28 ct28), sl28⟩) (c28 : PySem.W.codeIn K cd28 "_law_right" = true) (k28 : PySem.W.keepIn K (.ref f28) = true)
    {od29 an29 : Option Addr} {sl29 : Array (Option Value)} {oc29 kV29 dc29 pm29 cd29 ct29 : Value} {f29 : Addr}
    (a29 : PySem.W.nsIn K mainGlobals "law" = some (some (.ref f29))) (l29 : K.lookup f29 = some ⟨oc29, od29, .func (PySem.W.fnOf "law" "law" (defArgs s_p_law) (defBody s_p_law) (defScope s_p_law) .none kV29 dc29 pm29 an29 cd29 ct29), sl29⟩) (c29 : PySem.W.codeIn K cd29 "law" = true) (k29 : PySem.W.keepIn K (.ref f29) = true)
    (z_abs : PySem.W.nsIn K mainGlobals "abs" = some none)
    (z_all : PySem.W.nsIn K mainGlobals "all" = some none)
    (z_bool : PySem.W.nsIn K mainGlobals "bool" = some none)
    (z_int : PySem.W.nsIn K mainGlobals "int" = some none)
    (z_isinstance : PySem.W.nsIn K mainGlobals "isinstance" = some none)
    (z_len : PySem.W.nsIn K mainGlobals "len" = some none)
    (z_list : PySem.W.nsIn K mainGlobals "list" = some none)
    (z_min : PySem.W.nsIn K mainGlobals "min" = some none)
    (z_range : PySem.W.nsIn K mainGlobals "range" = some none)
    (z_tuple : PySem.W.nsIn K mainGlobals "tuple" = some none)
    (z_zip : PySem.W.nsIn K mainGlobals "zip" = some none)
    (z_gcd : PySem.W.nsIn K mainGlobals "gcd" = some (some (.builtin "math.gcd")))
    {a_NOUGHT : Addr} {od_NOUGHT : Option Addr} {n_NOUGHT : Nat} {sl_NOUGHT : Array (Option Value)} {t_NOUGHT_0 t_NOUGHT_1 : Tok} (z_NOUGHT : PySem.W.nsIn K mainGlobals "NOUGHT" = some (some (.ref a_NOUGHT))) (l_NOUGHT : K.lookup a_NOUGHT = some ⟨.type "tuple", od_NOUGHT, .seq #[.int 0 t_NOUGHT_0, .int 1 t_NOUGHT_1] n_NOUGHT, sl_NOUGHT⟩)
    : ∃ fd : FuncData, (∀ (s : Shared) (v : Value), BindsTo s fd ⟨[v], []⟩ [("_law_script", v)]) ∧ ∀ base : Heap, K.In base → base.Ns mainGlobals mg → FnOk l.prog w K mg base CX0 9 fa fd ["_law_script"] (sp_p_law K) := by
  have e := hfa.symm.trans (PySem.W.mg_of X G a29)
  cases e
  have F0 := fun_mk (st := s_p_is_number) l0 c0 k0
  have F1 := fun_mk (st := s_p_is_frac) l1 c1 k1
  have F2 := fun_mk (st := s_p_frac_of) l2 c2 k2
  have F3 := fun_mk (st := s_p_sum_of) l3 c3 k3
  have F4 := fun_mk (st := s_p_difference) l4 c4 k4
  have F5 := fun_mk (st := s_p_product) l5 c5 k5
  have F6 := fun_mk (st := s_p_quotient) l6 c6 k6
  have F7 := fun_mk (st := s_p_is_lesser) l7 c7 k7
  have F8 := fun_mk (st := s_p_water_at) l8 c8 k8
  have F9 := fun_mk (st := s_p_boiled_down) l9 c9 k9
  have F10 := fun_mk (st := s_p_ready_in) l10 c10 k10
  have F11 := fun_mk (st := s_p_volume_of) l11 c11 k11
  have F12 := fun_mk (st := s_p_strength_of) l12 c12 k12
  have F13 := fun_mk (st := s_l_cell_at) l13 c13 k13
  have F14 := fun_mk (st := s_l_box) l14 c14 k14
  have F15 := fun_mk (st := s_l_take) l15 c15 k15
  have F16 := fun_mk (st := s_l_low) l16 c16 k16
  have F17 := fun_mk (st := s_l_plus) l17 c17 k17
  have F18 := fun_mk (st := s_l_by) l18 c18 k18
  have F19 := fun_mk (st := s_l_frac) l19 c19 k19
  have F20 := fun_mk (st := s_l_share) l20 c20 k20
  have F21 := fun_mk (st := s_l_same) l21 c21 k21
  have F22 := fun_mk (st := s_l_juice) l22 c22 k22
  have F23 := fun_mk (st := s_l_mark) l23 c23 k23
  have F24 := fun_mk (st := s_l_is_less) l24 c24 k24
  have F25 := fun_mk (st := s_l_is_small) l25 c25 k25
  have F26 := fun_mk (st := s_l_case) l26 c26 k26
  have F27 := fun_mk (st := s_l_on_the_way_right) l27 c27 k27
  have F28 := fun_mk (st := s_l_right) l28 c28 k28
  have F29 := fun_mk (st := s_p_law) l29 c29 k29
  let T : All K mg := ⟨_, _, ⟨F0, PySem.W.mg_of X G a0, F0.binds (ps := ["thing"]) fun _ _ _ _ _ _ us hl => match us, hl with | [_], _ => rfl⟩, _, _, ⟨F1, PySem.W.mg_of X G a1, F1.binds (ps := ["thing"]) fun _ _ _ _ _ _ us hl => match us, hl with | [_], _ => rfl⟩, _, _, ⟨F2, PySem.W.mg_of X G a2, F2.binds (ps := ["top", "bottom"]) fun _ _ _ _ _ _ us hl => match us, hl with | [_, _], _ => rfl⟩, _, _, ⟨F3, PySem.W.mg_of X G a3, F3.binds (ps := ["one", "other"]) fun _ _ _ _ _ _ us hl => match us, hl with | [_, _], _ => rfl⟩, _, _, ⟨F4, PySem.W.mg_of X G a4, F4.binds (ps := ["one", "other"]) fun _ _ _ _ _ _ us hl => match us, hl with | [_, _], _ => rfl⟩, _, _, ⟨F5, PySem.W.mg_of X G a5, F5.binds (ps := ["one", "other"]) fun _ _ _ _ _ _ us hl => match us, hl with | [_, _], _ => rfl⟩, _, _, ⟨F6, PySem.W.mg_of X G a6, F6.binds (ps := ["one", "other"]) fun _ _ _ _ _ _ us hl => match us, hl with | [_, _], _ => rfl⟩, _, _, ⟨F7, PySem.W.mg_of X G a7, F7.binds (ps := ["one", "other"]) fun _ _ _ _ _ _ us hl => match us, hl with | [_, _], _ => rfl⟩, _, _, ⟨F8, PySem.W.mg_of X G a8, F8.binds (ps := ["sugar", "mark"]) fun _ _ _ _ _ _ us hl => match us, hl with | [_, _], _ => rfl⟩, _, _, ⟨F9, PySem.W.mg_of X G a9, F9.binds (ps := ["juice", "fire", "mark", "hours"]) fun _ _ _ _ _ _ us hl => match us, hl with | [_, _, _, _], _ => rfl⟩, _, _, ⟨F10, PySem.W.mg_of X G a10, F10.binds (ps := ["juice", "fire", "mark"]) fun _ _ _ _ _ _ us hl => match us, hl with | [_, _, _], _ => rfl⟩, _, _, ⟨F11, PySem.W.mg_of X G a11, F11.binds (ps := ["juice"]) fun _ _ _ _ _ _ us hl => match us, hl with | [_], _ => rfl⟩, _, _, ⟨F12, PySem.W.mg_of X G a12, F12.binds (ps := ["juice"]) fun _ _ _ _ _ _ us hl => match us, hl with | [_], _ => rfl⟩, _, _, ⟨F13, PySem.W.mg_of X G a13, F13.binds (ps := ["_law_script", "_law_k"]) fun _ _ _ _ _ _ us hl => match us, hl with | [_, _], _ => rfl⟩, _, _, ⟨F14, PySem.W.mg_of X G a14, F14.binds (ps := ["_law_script", "_law_k"]) fun _ _ _ _ _ _ us hl => match us, hl with | [_, _], _ => rfl⟩, _, _, ⟨F15, PySem.W.mg_of X G a15, F15.binds (ps := ["_law_box_here", "_law_many"]) fun _ _ _ _ _ _ us hl => match us, hl with | [_, _], _ => rfl⟩, _, _, ⟨F16, PySem.W.mg_of X G a16, F16.binds (ps := ["_law_top", "_law_bottom"]) fun _ _ _ _ _ _ us hl => match us, hl with | [_, _], _ => rfl⟩, _, _, ⟨F17, PySem.W.mg_of X G a17, F17.binds (ps := ["_law_one", "_law_other"]) fun _ _ _ _ _ _ us hl => match us, hl with | [_, _], _ => rfl⟩, _, _, ⟨F18, PySem.W.mg_of X G a18, F18.binds (ps := ["_law_one", "_law_other"]) fun _ _ _ _ _ _ us hl => match us, hl with | [_, _], _ => rfl⟩, _, _, ⟨F19, PySem.W.mg_of X G a19, F19.binds (ps := ["_law_box_here", "_law_below"]) fun _ _ _ _ _ _ us hl => match us, hl with | [_, _], _ => rfl⟩, _, _, ⟨F20, PySem.W.mg_of X G a20, F20.binds (ps := ["_law_box_here"]) fun _ _ _ _ _ _ us hl => match us, hl with | [_], _ => rfl⟩, _, _, ⟨F21, PySem.W.mg_of X G a21, F21.binds (ps := ["_law_found", "_law_due"]) fun _ _ _ _ _ _ us hl => match us, hl with | [_, _], _ => rfl⟩, _, _, ⟨F22, PySem.W.mg_of X G a22, F22.binds (ps := ["_law_box_here"]) fun _ _ _ _ _ _ us hl => match us, hl with | [_], _ => rfl⟩, _, _, ⟨F23, PySem.W.mg_of X G a23, F23.binds (ps := ["_law_box_here"]) fun _ _ _ _ _ _ us hl => match us, hl with | [_], _ => rfl⟩, _, _, ⟨F24, PySem.W.mg_of X G a24, F24.binds (ps := ["_law_one", "_law_other"]) fun _ _ _ _ _ _ us hl => match us, hl with | [_, _], _ => rfl⟩, _, _, ⟨F25, PySem.W.mg_of X G a25, F25.binds (ps := ["_law_one"]) fun _ _ _ _ _ _ us hl => match us, hl with | [_], _ => rfl⟩, _, _, ⟨F26, PySem.W.mg_of X G a26, F26.binds (ps := ["_law_box_here"]) fun _ _ _ _ _ _ us hl => match us, hl with | [_], _ => rfl⟩, _, _, ⟨F27, PySem.W.mg_of X G a27, F27.binds (ps := ["_law_box_here", "_law_juice_here", "_law_fire", "_law_mark_here", "_law_when"]) fun _ _ _ _ _ _ us hl => match us, hl with | [_, _, _, _, _], _ => rfl⟩, _, _, ⟨F28, PySem.W.mg_of X G a28, F28.binds (ps := ["_law_box_here"]) fun _ _ _ _ _ _ us hl => match us, hl with | [_], _ => rfl⟩, _, _, ⟨F29, PySem.W.mg_of X G a29, F29.binds (ps := ["_law_script"]) fun _ _ _ _ _ _ us hl => match us, hl with | [_], _ => rfl⟩, PySem.W.mg_none_of X G z_abs, PySem.W.mg_none_of X G z_all, PySem.W.mg_none_of X G z_bool, PySem.W.mg_none_of X G z_int, PySem.W.mg_none_of X G z_isinstance, PySem.W.mg_none_of X G z_len, PySem.W.mg_none_of X G z_list, PySem.W.mg_none_of X G z_min, PySem.W.mg_none_of X G z_range, PySem.W.mg_none_of X G z_tuple, PySem.W.mg_none_of X G z_zip, PySem.W.mg_of X G z_gcd, _, PySem.W.mg_of X G z_NOUGHT, fun H => .inr ⟨_, _, _, l_NOUGHT, rfl, rfl, small (n := 2) (by decide), .cons ⟨_, rfl⟩ (.cons ⟨_, rfl⟩ (.nil))⟩⟩
  exact ⟨T.fd_p_law, fun s v => .of_eq rfl, fun base _ _ => ok_p_law T⟩
end KR
open PySem PySem.W PyProof.Rows
set_option maxRecDepth 100000 in
set_option maxHeartbeats 0 in
theorem PySem.Challenge.cw_kettlerow_k09_ready_in_so_many_hours_holds : PySem.Challenge.rw_kettlerow_k09_ready_in_so_many_hours.Holds := by
  w_on; o_law; k_head; (case hw => w_witness2)
  k_fill
  refine L2.walk_of (l := PySem.Challenge.rw_kettlerow_k09_ready_in_so_many_hours) (n := 63) (k := 9) (x := "_law_script") (CX := fun _ => L2.CX0) (sp := fun w => KR.sp_p_law _) rfl (by decide) rfl ⟨rfl, by decide, by decide⟩ (fun w h Y => PySem.W.kIn_of Y) ?F (fun _ _ a ns hl _ hS => ⟨a, ns, rfl, hS, hl, fun _ => rfl⟩) (fun _ _ _ _ _ h => h)
  case F =>
    intro w mg fa h KX G hmg
    refine' KR.all_mk KX G hmg ?a0 ?l0 ?c0 ?k0 ?a1 ?l1 ?c1 ?k1 ?a2 ?l2 ?c2 ?k2 ?a3 ?l3 ?c3 ?k3 ?a4 ?l4 ?c4 ?k4 ?a5 ?l5 ?c5 ?k5 ?a6 ?l6 ?c6 ?k6 ?a7 ?l7 ?c7 ?k7 ?a8 ?l8 ?c8 ?k8 ?a9 ?l9 ?c9 ?k9 ?a10 ?l10 ?c10 ?k10 ?a11 ?l11 ?c11 ?k11 ?a12 ?l12 ?c12 ?k12 ?a13 ?l13 ?c13 ?k13 ?a14 ?l14 ?c14 ?k14 ?a15 ?l15 ?c15 ?k15 ?a16 ?l16 ?c16 ?k16 ?a17 ?l17 ?c17 ?k17 ?a18 ?l18 ?c18 ?k18 ?a19 ?l19 ?c19 ?k19 ?a20 ?l20 ?c20 ?k20 ?a21 ?l21 ?c21 ?k21 ?a22 ?l22 ?c22 ?k22 ?a23 ?l23 ?c23 ?k23 ?a24 ?l24 ?c24 ?k24 ?a25 ?l25 ?c25 ?k25 ?a26 ?l26 ?c26 ?k26 ?a27 ?l27 ?c27 ?k27 ?a28 ?l28 ?c28 ?k28 ?a29 ?l29 ?c29 ?k29 ?z_abs ?z_all ?z_bool ?z_int ?z_isinstance ?z_len ?z_list ?z_min ?z_range ?z_tuple ?z_zip ?z_gcd ?z_NOUGHT ?l_NOUGHT
    (case a0 => k_is)
    (case l0 => k_is)
    (case c0 => k_is)
    (case k0 => k_is)
    (case a1 => k_is)
    (case l1 => k_is)
    (case c1 => k_is)
    (case k1 => k_is)
    (case a2 => k_is)
    (case l2 => k_is)
    (case c2 => k_is)
    (case k2 => k_is)
    (case a3 => k_is)
    (case l3 => k_is)
    (case c3 => k_is)
    (case k3 => k_is)
    (case a4 => k_is)
    (case l4 => k_is)
    (case c4 => k_is)
    (case k4 => k_is)
    (case a5 => k_is)
    (case l5 => k_is)
    (case c5 => k_is)
    (case k5 => k_is)
    (case a6 => k_is)
    (case l6 => k_is)
    (case c6 => k_is)
    (case k6 => k_is)
    (case a7 => k_is)
    (case l7 => k_is)
    (case c7 => k_is)
    (case k7 => k_is)
    (case a8 => k_is)
    (case l8 => k_is)
    (case c8 => k_is)
    (case k8 => k_is)
    (case a9 => k_is)
    (case l9 => k_is)
    (case c9 => k_is)
    (case k9 => k_is)
    (case a10 => k_is)
    (case l10 => k_is)
    (case c10 => k_is)
    (case k10 => k_is)
    (case a11 => k_is)
    (case l11 => k_is)
    (case c11 => k_is)
    (case k11 => k_is)
    (case a12 => k_is)
    (case l12 => k_is)
    (case c12 => k_is)
    (case k12 => k_is)
    (case a13 => k_is)
    (case l13 => k_is)
    (case c13 => k_is)
    (case k13 => k_is)
    (case a14 => k_is)
    (case l14 => k_is)
    (case c14 => k_is)
    (case k14 => k_is)
    (case a15 => k_is)
    (case l15 => k_is)
    (case c15 => k_is)
    (case k15 => k_is)
    (case a16 => k_is)
    (case l16 => k_is)
    (case c16 => k_is)
    (case k16 => k_is)
    (case a17 => k_is)
    (case l17 => k_is)
    (case c17 => k_is)
    (case k17 => k_is)
    (case a18 => k_is)
    (case l18 => k_is)
    (case c18 => k_is)
    (case k18 => k_is)
    (case a19 => k_is)
    (case l19 => k_is)
    (case c19 => k_is)
    (case k19 => k_is)
    (case a20 => k_is)
    (case l20 => k_is)
    (case c20 => k_is)
    (case k20 => k_is)
    (case a21 => k_is)
    (case l21 => k_is)
    (case c21 => k_is)
    (case k21 => k_is)
    (case a22 => k_is)
    (case l22 => k_is)
    (case c22 => k_is)
    (case k22 => k_is)
    (case a23 => k_is)
    (case l23 => k_is)
    (case c23 => k_is)
    (case k23 => k_is)
    (case a24 => k_is)
    (case l24 => k_is)
    (case c24 => k_is)
    (case k24 => k_is)
    (case a25 => k_is)
    (case l25 => k_is)
    (case c25 => k_is)
    (case k25 => k_is)
    (case a26 => k_is)
    (case l26 => k_is)
    (case c26 => k_is)
    (case k26 => k_is)
    (case a27 => k_is)
    (case l27 => k_is)
    (case c27 => k_is)
    (case k27 => k_is)
    (case a28 => k_is)
    (case l28 => k_is)
    (case c28 => k_is)
    (case k28 => k_is)
    (case a29 => k_is)
    (case l29 => k_is)
    (case c29 => k_is)
    (case k29 => k_is)
    (case z_abs => k_is)
    (case z_all => k_is)
    (case z_bool => k_is)
    (case z_int => k_is)
    (case z_isinstance => k_is)
    (case z_len => k_is)
    (case z_list => k_is)
    (case z_min => k_is)
    (case z_range => k_is)
    (case z_tuple => k_is)
    (case z_zip => k_is)
    (case z_gcd => k_is)
    (case z_NOUGHT => k_is)
    (case l_NOUGHT => k_is)
#print axioms PySem.Challenge.cw_kettlerow_k09_ready_in_so_many_hours_holds
