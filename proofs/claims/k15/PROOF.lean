import PyProof.Rows.All
import Wide.All
import OpenK.AllK
import Wide.FinOn
import HandS.ForMost
import HandS.Gcd
import HandS.Wide
import HandS.IsInst
import HandS.Zip
import HandS.More
import HandS.Style
import HandS.Rev
import HandS.MapJoin
import HandS.StrMore
import HandS.WideBits
import HandS.TupMul
import HandS.Small
import PyProof.Rows.RegFStrParts
import HandS.Dict
import KE.KNest
import HandS.AnyAll
import HandS.EndTab
import HandS.GenOver
import HandS.Strs
import HandS.Flow
import PyProof.RulesMatch
import PyProof.RulesMatchSeq
import PyProof.Rows.MatchSeqLen
import HandS.TryOnly
import KE.KExcIs
import HandS.ExcInit
import HandS.ExcField
import HandS.ExcIs
import HandS.WordsExc
import HandS.ExcOwn
import HandS.Walk
import KE.GoesEnum
import KE.GoesMore
import KE.GoesZip
import HandS.Zip
import PyProof.Rows.CountFlat
import PyProof.StrLawsIn
import HandS.Flow
import PyProof.RulesMatch
import PyProof.RulesMatchSeq
import PyProof.Rows.MatchSeqLen
import KE.KTypeName
import OpenK.KCls
import PySem.Challenge.RW_kettlerow_k15_rows_that_cant_stand
set_option Elab.async false
set_option linter.all false
set_option maxRecDepth 100000
set_option maxHeartbeats 4000000
/-! ### own rules and words, of no law -/
namespace KR
open PySem PySem.Spec PyProof.Rows L2

/-- * of any two ints whose product is told to fit -/
theorem op_mulX {X : Cx} : OpR X (binaryOp .Mult) (rI IntMulOk fun i j => .int (i * j)) := opI fun _ _ _ _ _ _ _ hc q => mul_int q hc
/-- // by any divisor but 0, to some three thousand figures -/
def DivOk (_ j : Int) : Prop := j ≠ 0 ∧ j.natAbs.log2 < 9000
theorem op_fdivX {X : Cx} : OpR X (binaryOp .FloorDiv) (rI DivOk fun i j => .int (i.fdiv j)) := opI fun _ _ _ _ _ _ _ hc q => floordiv_int hc.1 q (.inl (PyProof.noPylong_of_log2 hc.2))
theorem mulL {i j : Int} (h : i.natAbs < 2 ^ 64) : IntMulOk i j := CMul.ok (.inl ⟨by omega, by omega⟩)
theorem mulR {i j : Int} (h : j.natAbs < 2 ^ 64) : IntMulOk i j := CMul.ok (.inr ⟨by omega, by omega⟩)
theorem mulW {i j : Int} {a b : Nat} (ha : i.natAbs < 2 ^ a) (hb : j.natAbs < 2 ^ b) (h0 : 0 < a) (h1 : 0 < b) (h : a + b ≤ 1000000) : IntMulOk i j := (wide_mul ha hb h0 h1 h).ok
theorem divOk {i j : Int} {b : Nat} (h : j ≠ 0) (hb : j.natAbs < 2 ^ b) (h0 : 0 < b) (h9 : b ≤ 9000) : DivOk i j := ⟨h, Nat.lt_of_lt_of_le (PySem.Flt.log2_lt_of h0 hb) h9⟩
theorem add_lt {i j : Int} {a : Nat} (ha : i.natAbs < 2 ^ a) (hb : j.natAbs < 2 ^ a) : (i + j).natAbs < 2 ^ (a + 1) := by
  rw [Nat.pow_succ]
  omega
theorem sub_lt {i j : Int} {a : Nat} (ha : i.natAbs < 2 ^ a) (hb : j.natAbs < 2 ^ a) : (i - j).natAbs < 2 ^ (a + 1) := by
  rw [Nat.pow_succ]
  omega
theorem lt_up {i : Int} {a b : Nat} (ha : i.natAbs < 2 ^ a) (h : a ≤ b) : i.natAbs < 2 ^ b := Nat.lt_of_lt_of_le ha (Nat.pow_le_pow_right (by decide) h)
theorem b40 {n : Nat} (h : n < 10 ^ 40) : n < 2 ^ 200 := Nat.lt_trans h (by decide)
theorem b41 {n : Nat} (h : n ≤ 10 ^ 41) : n < 2 ^ 200 := Nat.lt_of_le_of_lt h (by decide)
theorem bit_lt {c : Prop} [Decidable c] : (if c then (1 : Int) else 0).natAbs < 2 ^ 64 := by split <;> decide
theorem bit_nn {c : Prop} [Decidable c] : (0 : Int) ≤ (if c then (1 : Int) else 0) := by split <;> decide
theorem bit_or {c : Prop} [Decidable c] : (if c then (1 : Int) else 0) = 0 ∨ (if c then (1 : Int) else 0) = 1 := by split <;> simp
theorem small {n : Nat} (h : n ≤ 100000) : n ≤ sizeLine := Nat.le_trans h (by decide)
theorem small' {n : Nat} (h : n < 100000) : n < sizeLine := Nat.lt_of_lt_of_le h (by decide)

/-! the heap but for one object that is written -/
/-- all that was tracked but p is as it was -/
def Fr (p : Addr) (H H' : Hp) : Prop := ∀ b o, b ≠ p → H b = some o → H' b = some o
theorem Fr.refl {p : Addr} {H : Hp} : Fr p H H := fun _ _ _ h => h
theorem Fr.trans {p : Addr} {H H1 H2 : Hp} (a : Fr p H H1) (b : Fr p H1 H2) : Fr p H H2 := fun c o n h => b c o n (a c o n h)
theorem Fr.of {p : Addr} {H H1 : Hp} (a : Same H H1) : Fr p H H1 := fun c o _ h => a c o h
theorem same_new {H : Hp} {p : Addr} {o : HO} (h : H p = none) : Same H (upd H p o) := fun b x e => by
  rw [upd_ne (ne_of_none e h)]
  exact e
theorem Fr.new {p q : Addr} {H H1 : Hp} {o : HO} (a : Fr p H H1) (h : H1 q = none) : Fr p H (upd H1 q o) := a.trans (.of (same_new h))
theorem Fr.put {p : Addr} {H H1 : Hp} {o : HO} (a : Fr p H H1) : Fr p H (upd H1 p o) := fun c x n h => by
  rw [upd_ne n]
  exact a c x n h
theorem Fr.put' {p q : Addr} {H H1 : Hp} {o : HO} (a : Fr p H H1) (h : H q = none) : Fr p H (upd H1 q o) := fun c x n e => by
  rw [upd_ne (ne_of_none e h)]
  exact a c x n e
/-- what is new there was new ahead of it, if the written one stands -/
theorem Fr.free {p q : Addr} {H H1 : Hp} {o : HO} (a : Fr p H H1) (hp : H1 p = some o) (h : H1 q = none) : H q = none := by
  cases e : H q with
  | none => rfl
  | some u =>
    have n : q ≠ p := fun z => by
      rw [z, hp] at h
      cases h
    rw [a q u n e] at h
    cases h

/-! a reading may be asked for more than is wanted; displays whose new heap is a letter -/
def clA (t : TA) : TA := fun σ H Q => ∃ Q0 : List V → Hp → Prop, (∀ xs H1, Q0 xs H1 → Q xs H1) ∧ t σ H Q0
theorem pa_cl {X : Cx} {es : List Expr} {t : TA} (h : PA X es t) : PA X es (clA t) := ⟨fun pos pins s σ H Q I ⟨Q0, m, q⟩ =>
  thn (h.run pos pins s σ H Q0 I q) fun us s1 ⟨xs, H1, I1, r, z⟩ => ⟨xs, H1, I1, r, m _ _ z⟩⟩
def tTupI (t : TA) : TE := fun σ H Q => t σ H fun xs H1 => Nat.ble xs.length 100000 = true ∧ ∀ p H', Same H1 H' → H1 p = none → H' p = some (.tup xs) → Q (.ref p) H'
def tLstI (t : TA) : TE := fun σ H Q => t σ H fun xs H1 => Nat.ble xs.length 100000 = true ∧ ∀ p H', Same H1 H' → H1 p = none → H' p = some (.lst xs) → Q (.ref p) H'
theorem pe_tupI {X : Cx} {es : List Expr} {k : Nat} {pos : Pos} {t : TA} (h : PA X es t) : PE X (.Tuple es k pos) (tTupI t) := ⟨fun pins s σ H Q I q =>
  (pe_tup (pa_cl h)).run pins s σ H Q I ⟨_, fun _ _ ⟨z, w⟩ => ⟨small (Nat.le_of_ble_eq_true z), fun p hp => w p _ (same_new hp) hp upd_same⟩, q⟩⟩
theorem pe_lstI {X : Cx} {es : List Expr} {pos : Pos} {t : TA} (h : PA X es t) : PE X (.List es pos) (tLstI t) := ⟨fun pins s σ H Q I q =>
  (pe_lst (pa_cl h)).run pins s σ H Q I ⟨_, fun _ _ ⟨z, w⟩ => ⟨small (Nat.le_of_ble_eq_true z), fun p hp => w p _ (same_new hp) hp upd_same⟩, q⟩⟩
/-- ways that join behind a statement: R is what they come to -/
def tJ (t : TS) : TS := fun D σ H => ∃ R : L2.St → Hp → Prop, (∀ σ' H', R σ' H' → D.nx σ' H') ∧ t { D with nx := R } σ H
theorem ps_J {X : Cx} {st : Stmt} {t : TS} (h : PS X st t) : PS X st (tJ t) := ⟨fun pins s σ H D I ⟨R, m, q⟩ => thn (h.run pins s σ H { D with nx := R } I q) fun f s1 z =>
  match f, z with
  | .next, ⟨σ', H', J, r⟩ => ⟨σ', H', J, m _ _ r⟩
  | .ret _, z => z
  | .brk, z => z
  | .cont, z => z⟩
theorem ite_bT {b : Bool} {A B : Prop} (h : b = true) (q : A) : if b = true then A else B := by
  rw [if_pos h]
  exact q
theorem ite_bF {b : Bool} {A B : Prop} (h : b = false) (q : B) : if b = true then A else B := by
  rw [if_neg (by rw [h]; exact Bool.false_ne_true)]
  exact q
theorem ite_iT {i j : Int} {A B : Prop} (h : i = j) (q : A) : if decide (V.int i = V.int j) = true then A else B := by
  rw [if_pos (decide_eq_true (congrArg V.int h))]
  exact q
theorem ite_iF {i j : Int} {A B : Prop} (h : i ≠ j) (q : B) : if decide (V.int i = V.int j) = true then A else B := by
  rw [if_neg (by rw [decide_eq_false fun z => h (V.int.inj z)]; exact Bool.false_ne_true)]
  exact q
theorem ite_nT {i j : Int} {A B : Prop} (h : i ≠ j) (q : A) : if (!decide (V.int i = V.int j)) = true then A else B := by
  rw [if_pos (by rw [decide_eq_false fun z => h (V.int.inj z)] <;> rfl)]
  exact q
theorem ite_nF {i j : Int} {A B : Prop} (h : i = j) (q : B) : if (!decide (V.int i = V.int j)) = true then A else B := by
  rw [if_neg (by rw [decide_eq_true (congrArg V.int h)]; exact Bool.false_ne_true)]
  exact q
/-- the law's box of draws: n is more than have been mixed -/
def BoxAt (H : Hp) (p : Addr) (n : Nat) : Prop := ∃ a b c : Int, H p = some (.lst [.int a, .int b, .int c]) ∧ 0 ≤ a ∧ 0 ≤ b ∧ b < 2 ^ 62 ∧ 0 ≤ c ∧ c ≤ (n : Int)
theorem BoxAt.mono {H : Hp} {p : Addr} {n m : Nat} (h : BoxAt H p n) (le : n ≤ m) : BoxAt H p m := by
  obtain ⟨a, b, c, h1, h2, h3, h4, h5, h6⟩ := h
  exact ⟨a, b, c, h1, h2, h3, h4, h5, by omega⟩
theorem BoxAt.same {H H' : Hp} {p : Addr} {n : Nat} (h : BoxAt H p n) (s : Same H H') : BoxAt H' p n := by
  obtain ⟨a, b, c, h1, h2⟩ := h
  exact ⟨a, b, c, s _ _ h1, h2⟩
theorem BoxAt.ne {H : Hp} {p q : Addr} {n : Nat} {xs : List V} (h : BoxAt H p n) (t : H q = some (.tup xs)) : q ≠ p := by
  obtain ⟨a, b, c, h1, _⟩ := h
  exact ne_of t h1 (by intro z; cases z)
theorem BoxAt.some {H : Hp} {p : Addr} {n : Nat} (h : BoxAt H p n) : ∃ o, H p = some o := by
  obtain ⟨a, b, c, h1, _⟩ := h
  exact ⟨_, h1⟩
/-- a tuple stays -/
theorem Fr.tup {p q : Addr} {H H1 : Hp} {n : Nat} {xs : List V} (a : Fr p H H1) (hb : BoxAt H p n) (t : H q = some (.tup xs)) : H1 q = some (.tup xs) := a q _ (hb.ne t) t
/-- a pair of ints -/
def PrAt (H : Hp) (q : Addr) (t b : Int) : Prop := H q = some (.tup [.int t, .int b])
theorem at0 {x : V} {xs : List V} : atI (x :: xs) 0 = some x := atI_nat (j := 0) rfl
theorem at1 {x y : V} {xs : List V} : atI (x :: y :: xs) 1 = some y := atI_nat (j := 1) rfl
theorem at2 {x y z : V} {xs : List V} : atI (x :: y :: z :: xs) 2 = some z := atI_nat (j := 2) rfl

/-! fractions -/
/-- the law's own lowest terms -/
def low (t b : Int) : Int × Int := (t / (Nat.gcd t.natAbs b.natAbs : Nat) * (if b < 0 then -1 else 1), (b.natAbs : Int) / (Nat.gcd t.natAbs b.natAbs : Nat))
structure IsLow (t b : Int) : Prop where
  pos : 0 < b
  cop : Nat.gcd t.natAbs b.natAbs = 1
theorem dvd_mul {a b : Int} (h : a ∣ b) : a * (b / a) = b := Int.mul_ediv_cancel' h
theorem low_facts (t b : Int) (hb : b ≠ 0) : IsLow (low t b).1 (low t b).2 ∧ t * (low t b).2 = (low t b).1 * b := by
  have hg : 0 < Nat.gcd t.natAbs b.natAbs := Nat.gcd_pos_of_pos_right _ (by omega)
  generalize e : Nat.gcd t.natAbs b.natAbs = g at hg
  have d1 : g ∣ t.natAbs := e ▸ Nat.gcd_dvd_left _ _
  have d2 : g ∣ b.natAbs := e ▸ Nat.gcd_dvd_right _ _
  obtain ⟨x, hx⟩ := d1
  obtain ⟨y, hy⟩ := d2
  have hc : Nat.gcd x y = 1 := by
    rw [hx, hy, Nat.gcd_mul_left] at e
    exact Nat.eq_of_mul_eq_mul_left hg (by rw [e, Nat.mul_one])
  have hy0 : 0 < y := by
    rcases Nat.eq_zero_or_pos y with z | z
    · rw [z, Nat.mul_zero] at hy
      omega
    · exact z
  have h2 : (low t b).2 = (y : Int) := by
    show (b.natAbs : Int) / (Nat.gcd t.natAbs b.natAbs : Nat) = (y : Int)
    rw [e, hy, Int.natCast_mul]
    exact Int.mul_ediv_cancel_left _ (by omega)
  have ht : t = (g : Int) * x ∨ t = -((g : Int) * x) := by
    have q : (t.natAbs : Int) = (g : Int) * x := by rw [hx, Int.natCast_mul]
    omega
  have hbb : (b.natAbs : Int) = (g : Int) * y := by rw [hy, Int.natCast_mul]
  have h1 : (low t b).1 = (t / (g : Int)) * (if b < 0 then -1 else 1) := by
    show t / (Nat.gcd t.natAbs b.natAbs : Nat) * (if b < 0 then -1 else 1) = _
    rw [e]
  have h3 : t / (g : Int) = x ∨ t / (g : Int) = -(x : Int) := by
    rcases ht with q | q
    · left
      rw [q]
      exact Int.mul_ediv_cancel_left _ (by omega)
    · right
      rw [q, ← Int.mul_neg]
      exact Int.mul_ediv_cancel_left _ (by omega)
  have h4 : (g : Int) * (t / (g : Int)) = t := dvd_mul (by
    rcases ht with q | q
    · exact ⟨x, q⟩
    · exact ⟨-x, by rw [q, Int.mul_neg]⟩)
  refine ⟨⟨by rw [h2]; omega, ?_⟩, ?_⟩
  · rw [h2, h1]
    have q : ((t / (g : Int)) * (if b < 0 then -1 else 1)).natAbs = x := by
      split <;> rcases h3 with z | z <;> rw [z] <;> omega
    rw [q]
    exact hc
  · rw [h2, h1]
    by_cases c : b < 0
    · rw [if_pos c]
      have q : b = -((g : Int) * y) := by omega
      grind
    · rw [if_neg c]
      have q : b = (g : Int) * y := by omega
      grind
theorem low_pos (t b : Int) (hb : b ≠ 0) : 0 < (low t b).2 := (low_facts t b hb).1.pos
/-- two fractions in lowest terms that are alike across are one -/
theorem isLow_uniq {x y u v : Int} (h : IsLow x y) (k : IsLow u v) (e : x * v = u * y) : x = u ∧ y = v := by
  have h1 := h.pos
  have k1 := k.pos
  have e1 : x.natAbs * v.natAbs = u.natAbs * y.natAbs := by rw [← Int.natAbs_mul, ← Int.natAbs_mul, e]
  have d1 : y.natAbs ∣ v.natAbs := (Nat.Coprime.symm h.cop).dvd_of_dvd_mul_left (by rw [e1]; exact Nat.dvd_mul_left _ _)
  have d2 : v.natAbs ∣ y.natAbs := (Nat.Coprime.symm k.cop).dvd_of_dvd_mul_left (by rw [← e1]; exact Nat.dvd_mul_left _ _)
  have e2 : y.natAbs = v.natAbs := Nat.dvd_antisymm d1 d2
  have e3 : y = v := by omega
  subst e3
  exact ⟨Int.eq_of_mul_eq_mul_right (by omega) e, rfl⟩
theorem low_eq {t b x y : Int} (hb : b ≠ 0) (h : IsLow x y) (e : t * y = x * b) : low t b = (x, y) := by
  obtain ⟨h1, h2⟩ := low_facts t b hb
  have q : (low t b).1 * y = x * (low t b).2 := by
    have z : b * ((low t b).1 * y) = b * (x * (low t b).2) := by grind
    exact Int.eq_of_mul_eq_mul_left hb z
  obtain ⟨a1, a2⟩ := isLow_uniq h1 h q
  exact Prod.ext a1 a2
theorem low_id {t b : Int} (h : IsLow t b) : low t b = (t, b) := low_eq (by have := h.pos; omega) h rfl
theorem low_le (t b : Int) : (low t b).1.natAbs ≤ t.natAbs ∧ (low t b).2.natAbs ≤ b.natAbs := by
  generalize e : Nat.gcd t.natAbs b.natAbs = g
  have h1 : (low t b).1 = (t / (g : Int)) * (if b < 0 then -1 else 1) := by
    show t / (Nat.gcd t.natAbs b.natAbs : Nat) * (if b < 0 then -1 else 1) = _
    rw [e]
  have h2 : (low t b).2 = (b.natAbs : Int) / (g : Int) := by
    show (b.natAbs : Int) / (Nat.gcd t.natAbs b.natAbs : Nat) = _
    rw [e]
  have d1 : (g : Int) ∣ t := e ▸ Int.ofNat_dvd_left.mpr (Nat.gcd_dvd_left _ _)
  constructor
  · rw [h1]
    have q : (t / (g : Int) * (if b < 0 then -1 else 1)).natAbs = (t / (g : Int)).natAbs := by
      split <;> omega
    rw [q]
    obtain ⟨z, rfl⟩ := d1
    by_cases c : (g : Int) = 0
    · rw [c, Int.zero_mul, Int.zero_ediv]
      omega
    · rw [Int.mul_ediv_cancel_left _ c, Int.natAbs_mul]
      exact Nat.le_mul_of_pos_left _ (by omega)
  · rw [h2, ← Int.natCast_ediv, Int.natAbs_natCast]
    exact Nat.div_le_self _ _
theorem low_lt {t b : Int} {n : Nat} (h1 : t.natAbs < 2 ^ n) (h2 : b.natAbs < 2 ^ n) : (low t b).1.natAbs < 2 ^ n ∧ (low t b).2.natAbs < 2 ^ n :=
  ⟨Nat.lt_of_le_of_lt (low_le t b).1 h1, Nat.lt_of_le_of_lt (low_le t b).2 h2⟩
/-- a fraction in lowest terms, of fewer than sixty figures -/
structure FrAt (H : Hp) (x : Addr) (a b : Int) : Prop where
  at_ : H x = some (.tup [.int a, .int b])
  low : IsLow a b
  ta : a.natAbs < 2 ^ 200
  tb : b.natAbs < 2 ^ 200
theorem FrAt.same {H H' : Hp} {x : Addr} {a b : Int} (h : FrAt H x a b) (s : Same H H') : FrAt H' x a b := ⟨s _ _ h.at_, h.low, h.ta, h.tb⟩
theorem FrAt.fr {H H' : Hp} {x p : Addr} {a b : Int} {n : Nat} (h : FrAt H x a b) (B : BoxAt H p n) (f : Fr p H H') : FrAt H' x a b := ⟨f.tup B h.at_, h.low, h.ta, h.tb⟩
/-- a new pair of two numbers' lowest terms -/
def sp_low : Sp := fun vs H Q _ => ∃ t b : Int, vs = [.int t, .int b] ∧ b ≠ 0 ∧ t.natAbs < 2 ^ 2000 ∧ b.natAbs < 2 ^ 2000 ∧ ∀ p H', Same H H' → H p = none → H' p = some (.tup [.int (low t b).1, .int (low t b).2]) → Q (.ref p) H'
/-- two pairs in, low of what f and g say of them out -/
def sp_two (K : PySem.W.Frag) (f g : Int → Int → Int → Int → Int) : Sp := fun vs H Q _ => ∃ (x y : Addr) (a b c d : Int), vs = [.ref x, .ref y] ∧ SqT K H x [.int a, .int b] ∧ SqT K H y [.int c, .int d] ∧ g a b c d ≠ 0 ∧ a.natAbs < 2 ^ 900 ∧ b.natAbs < 2 ^ 900 ∧ c.natAbs < 2 ^ 900 ∧ d.natAbs < 2 ^ 900 ∧
  ∀ p H', Same H H' → H p = none → H' p = some (.tup [.int (low (f a b c d) (g a b c d)).1, .int (low (f a b c d) (g a b c d)).2]) → Q (.ref p) H'
/-- by a divisor turned about -/
theorem fdiv_neg {t g : Int} (h : g ∣ t) : t.fdiv (-g) = t / g * -1 := by
  obtain ⟨z, rfl⟩ := h
  by_cases c : g = 0
  · subst c
    simp
  · rw [Int.mul_ediv_cancel_left _ c, show g * z = (-g) * (-z) by grind, Int.mul_fdiv_cancel_left _ (by omega)]
    omega

/-! data of the law's own making, n deep -/
theorem Same.put {H0 H : Hp} {D : Addr} {o : HO} (s : Same H0 H) (h : H0 D = none) : Same H0 (upd H D o) := fun b u e => by
  rw [upd_ne (ne_of_none e h)]
  exact s b u e
inductive Dt (H : Hp) : Nat → V → PyData → Prop
  | non (n : Nat) : Dt H (n + 1) .non .none
  | bl (n : Nat) (b : Bool) : Dt H (n + 1) (.bl b) (.bool b)
  | int (n : Nat) (i : Int) : Dt H (n + 1) (.int i) (.int i)
  | str (n : Nat) (x : Str) (ok : PyData.canLay0 (.str x) = true) : Dt H (n + 1) (.str x) (.str x)
  | lst {n : Nat} {a : Addr} {xs : List V} {ds : List PyData} : H a = some (.lst xs) → xs.length = ds.length → xs.length ≤ 100000 → (∀ (i : Nat) (x : V) (d : PyData), xs[i]? = some x → ds[i]? = some d → Dt H n x d) → Dt H (n + 1) (.ref a) (.list ds)
  | tup {n : Nat} {a : Addr} {xs : List V} {ds : List PyData} : H a = some (.tup xs) → xs.length = ds.length → xs.length ≤ 100000 → (∀ (i : Nat) (x : V) (d : PyData), xs[i]? = some x → ds[i]? = some d → Dt H n x d) → Dt H (n + 1) (.ref a) (.tuple ds)
theorem Dt.same {H H' : Hp} (s : Same H H') : ∀ {n : Nat} {v : V} {d : PyData}, Dt H n v d → Dt H' n v d := by
  intro n v d h
  induction h with
  | non n => exact .non n
  | bl n b => exact .bl n b
  | int n i => exact .int n i
  | str n x ok => exact .str n x ok
  | lst h1 h2 h3 _ ih => exact .lst (s _ _ h1) h2 h3 ih
  | tup h1 h2 h3 _ ih => exact .tup (s _ _ h1) h2 h3 ih
theorem Dt.up {H : Hp} {n m : Nat} {v : V} {d : PyData} (h : Dt H n v d) : n ≤ m → Dt H m v d := by
  intro le
  induction h generalizing m with
  | non n => obtain ⟨k, rfl⟩ : ∃ k, m = k + 1 := ⟨m - 1, by omega⟩; exact .non k
  | bl n b => obtain ⟨k, rfl⟩ : ∃ k, m = k + 1 := ⟨m - 1, by omega⟩; exact .bl k b
  | int n i => obtain ⟨k, rfl⟩ : ∃ k, m = k + 1 := ⟨m - 1, by omega⟩; exact .int k i
  | str n x ok => obtain ⟨k, rfl⟩ : ∃ k, m = k + 1 := ⟨m - 1, by omega⟩; exact .str k x ok
  | lst h1 h2 h3 _ ih => obtain ⟨k, rfl⟩ : ∃ k, m = k + 1 := ⟨m - 1, by omega⟩; exact .lst h1 h2 h3 fun i x d a b => ih i x d a b (by omega)
  | tup h1 h2 h3 _ ih => obtain ⟨k, rfl⟩ : ∃ k, m = k + 1 := ⟨m - 1, by omega⟩; exact .tup h1 h2 h3 fun i x d a b => ih i x d a b (by omega)
theorem Dt.tup2 {H : Hp} {n : Nat} {a : Addr} {x y : V} {d e : PyData} (h : H a = some (.tup [x, y])) (h1 : Dt H n x d) (h2 : Dt H n y e) : Dt H (n + 1) (.ref a) (.tuple [d, e]) :=
  .tup h rfl (by show 2 ≤ 100000; decide) fun i u v hu hv => match i, hu, hv with
    | 0, hu, hv => by cases hu; cases hv; exact h1
    | 1, hu, hv => by cases hu; cases hv; exact h2
    | i + 2, hu, _ => by simp at hu
theorem Dt.pair {H : Hp} {a : Addr} {t b : Int} (h : H a = some (.tup [.int t, .int b])) : Dt H 2 (.ref a) (.tuple [.int t, .int b]) := .tup2 h (.int 0 t) (.int 0 b)
theorem Dt.lst2 {H : Hp} {n : Nat} {a : Addr} {x y : V} {d e : PyData} (h : H a = some (.lst [x, y])) (h1 : Dt H n x d) (h2 : Dt H n y e) : Dt H (n + 1) (.ref a) (.list [d, e]) :=
  .lst h rfl (by show 2 ≤ 100000; decide) fun i u v hu hv => match i, hu, hv with
    | 0, hu, hv => by cases hu; cases hv; exact h1
    | 1, hu, hv => by cases hu; cases hv; exact h2
    | i + 2, hu, _ => by simp at hu
theorem Dt.lst3 {H : Hp} {n : Nat} {a : Addr} {x y z : V} {d e f : PyData} (h : H a = some (.lst [x, y, z])) (h1 : Dt H n x d) (h2 : Dt H n y e) (h3 : Dt H n z f) : Dt H (n + 1) (.ref a) (.list [d, e, f]) :=
  .lst h rfl (by show 3 ≤ 100000; decide) fun i u v hu hv => match i, hu, hv with
    | 0, hu, hv => by cases hu; cases hv; exact h1
    | 1, hu, hv => by cases hu; cases hv; exact h2
    | 2, hu, hv => by cases hu; cases hv; exact h3
    | i + 3, hu, _ => by simp at hu
/-- a comprehension over pairs: J hands out a new tuple of px i and py i at each of n turns, while St stands -/
theorem lc_pair {J : It} {n : Nat} {St : Hp → Prop} {px py : Nat → V} (hgo : ∀ i H, i < n → St H → J.go i H) (hst : ∀ H, St H → J.stop n H)
    (hy : ∀ i H v H', i < n → St H → J.yld i H v H' → ∃ T, v = .ref T ∧ H T = none ∧ H' = upd H T (.tup [px i, py i]))
    {g : TG} {tt : TT} {te : TE} {vs : List Nat} {σ : L2.St} {H1 : Hp} {D : Addr} {Qd : Hp → Prop} (Pv : Nat → Hp → Prop) (h0 : Pv 0 (upd H1 D (.lst []))) (hq : ∀ i H, i ≤ n → Pv i H → St H)
    (hs : ∀ i T H, i < n → Pv i H → H T = none → g (.ref T) (wipe σ vs) (upd H T (.tup [px i, py i])) fun σ2 H2 => wipe σ2 vs = wipe σ vs ∧ tt σ2 H2 fun b H3 =>
      if b = true then te σ2 H3 fun y H4 => ∃ acc, H4 D = some (.lst acc) ∧ acc.length < sizeLine ∧ Pv (i + 1) (upd H4 D (.lst (acc ++ [y]))) else Pv (i + 1) H3) (hd : ∀ H, Pv n H → Qd H) :
    ∃ W : Nat → Nat → Hp → Prop, (∃ m, W 0 m (upd H1 D (.lst []))) ∧ ∀ i m H, W i m H →
      (J.stop i H ∧ Qd H) ∨ (J.go i H ∧ ∃ Nx : Hp → Prop, (∀ H', Nx H' → ∃ m', m' < m ∧ W (i + 1) m' H') ∧ ∀ x H', J.yld i H x H' → g x (wipe σ vs) H' fun σ2 H2 => wipe σ2 vs = wipe σ vs ∧ tt σ2 H2 fun b H3 =>
        if b = true then te σ2 H3 fun y H4 => ∃ acc, H4 D = some (.lst acc) ∧ acc.length < sizeLine ∧ Nx (upd H4 D (.lst (acc ++ [y]))) else Nx H3) := by
  refine ⟨fun i m H => i + m = n ∧ Pv i H, ⟨n, by omega, h0⟩, fun i m H w => ?_⟩
  obtain ⟨e, p⟩ := w
  have q := hq i H (by omega) p
  rcases Nat.lt_or_ge i n with lt | ge
  · refine Or.inr ⟨hgo i H lt q, Pv (i + 1), fun H' p' => ⟨m - 1, by omega, by omega, p'⟩, fun x H' y => ?_⟩
    obtain ⟨T, rfl, nT, rfl⟩ := hy i H x H' lt q y
    exact hs i T H lt p nT
  · obtain rfl : i = n := by omega
    exact Or.inl ⟨hst H q, hd H p⟩
theorem zipL_go {K : PySem.W.Frag} {a b : Addr} {xs ys : List V} {n : Nat} (h1 : xs.length = n) (h2 : ys.length = n) {i : Nat} {H : Hp} (lt : i < n) (q : SqL K H a xs ∧ SqL K H b ys) : (Itz K a b).go i H :=
  ⟨xs, ys, _, _, q.1, q.2, List.getElem?_eq_getElem (by omega), List.getElem?_eq_getElem (by omega)⟩
theorem zipL_stop {K : PySem.W.Frag} {a b : Addr} {xs ys : List V} {n : Nat} (h1 : xs.length = n) {H : Hp} (q : SqL K H a xs ∧ SqL K H b ys) : (Itz K a b).stop n H := ⟨xs, ys, q.1, q.2, .inl (by omega)⟩
theorem zipL_yld {K : PySem.W.Frag} {a b : Addr} {xs ys : List V} {n : Nat} (h1 : xs.length = n) (h2 : ys.length = n) {i : Nat} {H H' : Hp} {v : V} (lt : i < n) (q : SqL K H a xs ∧ SqL K H b ys) (y : (Itz K a b).yld i H v H') :
    ∃ T, v = .ref T ∧ H T = none ∧ H' = upd H T (.tup [xs.getD i .non, ys.getD i .non]) := by
  obtain ⟨T, x, y, rfl, nT, rfl, f1, f2⟩ := y
  refine ⟨T, rfl, nT, ?_⟩
  rw [List.getD_eq_getElem?_getD, List.getD_eq_getElem?_getD, f1 _ q.1, f2 _ q.2] <;> rfl
theorem zipT_go {K : PySem.W.Frag} {a b : Addr} {xs ys : List V} {n : Nat} (h1 : xs.length = n) (h2 : ys.length = n) {i : Nat} {H : Hp} (lt : i < n) (q : SqT K H a xs ∧ SqT K H b ys) : (RZ.ItzT K a b).go i H :=
  ⟨xs, ys, _, _, q.1, q.2, List.getElem?_eq_getElem (by omega), List.getElem?_eq_getElem (by omega)⟩
theorem zipT_stop {K : PySem.W.Frag} {a b : Addr} {xs ys : List V} {n : Nat} (h1 : xs.length = n) {H : Hp} (q : SqT K H a xs ∧ SqT K H b ys) : (RZ.ItzT K a b).stop n H := ⟨xs, ys, q.1, q.2, .inl (by omega)⟩
theorem zipT_yld {K : PySem.W.Frag} {a b : Addr} {xs ys : List V} {n : Nat} (h1 : xs.length = n) (h2 : ys.length = n) {i : Nat} {H H' : Hp} {v : V} (lt : i < n) (q : SqT K H a xs ∧ SqT K H b ys) (y : (RZ.ItzT K a b).yld i H v H') :
    ∃ T, v = .ref T ∧ H T = none ∧ H' = upd H T (.tup [xs.getD i .non, ys.getD i .non]) := by
  obtain ⟨T, x, y, rfl, nT, rfl, f1, f2⟩ := y
  refine ⟨T, rfl, nT, ?_⟩
  rw [List.getD_eq_getElem?_getD, List.getD_eq_getElem?_getD, f1 _ q.1, f2 _ q.2] <;> rfl
theorem getD_of {xs : List V} {i : Nat} (h : i < xs.length) : xs[i]? = some (xs.getD i .non) := by
  rw [List.getD_eq_getElem?_getD, List.getElem?_eq_getElem h] <;> rfl
theorem yesT {σ : L2.St} {H : Hp} {A B : Hp → Prop} (h : A H) : tYes σ H fun b H3 => if b = true then A H3 else B H3 := iteT (A := A H) (B := B H) h
/-- True so often -/
theorem all_true (n : Nat) : (List.replicate n true).map V.bl = List.replicate n (V.bl true) ∧ (List.replicate n true).all id = true := by
  refine ⟨List.map_replicate, ?_⟩
  induction n with
  | zero => rfl
  | succ n ih => rw [List.replicate_succ, List.all_cons, ih] <;> rfl

/-- a def of the text, where it stands and how it is called -/
structure Def (K : PySem.W.Frag) (mg : Str → Option Value) (name : Str) (st : Stmt) (f : Addr) (fd : FuncData) (ps : List Str) : Prop where
  fn : Fun K name name st f fd
  mg : mg name = some (.ref f)
  b : Binds K fd ps []
/-! rules whose written part is a letter -/
section
variable {X : Cx} {K : PySem.W.Frag}
theorem ixL (h : X.K = K) : IxR X (rIxL K) := h ▸ ix_list
theorem ixT (h : X.K = K) : IxR X (rIxT K) := h ▸ ix_tup
theorem ixQ (h : X.K = K) : IxR X (rIx K) := h ▸ ix_seq
def rLenQ (K : PySem.W.Frag) : List V → Hp → VK → Prop := fun xs H Q => ∃ p ys, xs = [.ref p] ∧ (SqL K H p ys ∨ SqT K H p ys) ∧ Q (.int (ys.length : Nat)) H
theorem lenQ (h : X.K = K) : CallR X (.builtin "len") (rLenQ K) := h ▸ call_len_seq
def rLenA (K : PySem.W.Frag) : List V → Hp → VK → Prop := fun xs H Q => ∃ x n, xs = [x] ∧ LenV K x H n ∧ Q (.int (n : Nat)) H
theorem lenA (h : X.K = K) : CallR X (.builtin "len") (rLenA K) := h ▸ call_len
theorem isiK (h : X.K = K) : CallR X (.builtin "isinstance") (rIsi K) := h ▸ call_isi
theorem isiTK (h : X.K = K) : CallR X (.builtin "isinstance") (rIsiT K) := h ▸ call_isiT
theorem allK (h : X.K = K) (hc : X.calm = true) : CallR X (.builtin "all") (rAll K) := h ▸ cr_all hc
theorem anyK (h : X.K = K) (hc : X.calm = true) : CallR X (.builtin "any") (rAny K) := h ▸ cr_any hc
theorem sumK (h : X.K = K) (hc : X.calm = true) : CallR X (.builtin "sum") (rSum K) := h ▸ cr_sum hc
theorem eqDK (h : X.K = K) (hu : X.A.units + 64 < cLine) : OpR X (compareOp .Eq) (rEqD K) := h ▸ op_eqD hu
theorem neDK (h : X.K = K) (hu : X.A.units + 64 < cLine) : OpR X (compareOp .NotEq) (rNeD K) := h ▸ op_neD hu
theorem inQ (h : X.K = K) : OpR X (compareOp .In) (rIn K false) := h ▸ op_in_seq
theorem notInQ (h : X.K = K) : OpR X (compareOp .NotIn) (rIn K true) := h ▸ op_notIn_seq
theorem pi_listK {tg l : Expr} {tl : TE} (h : X.K = K) (hl : PE X l tl) : PI X tg l (iList K tl) := h ▸ pi_list hl
theorem pi_tupK {tg l : Expr} {tl : TE} (h : X.K = K) (hl : PE X l tl) : PI X tg l (iTup K tl) := h ▸ pi_tup hl
theorem pi_zipK {e e2 : Expr} {ta : TA} {p pos tpos : Pos} {elts : List Expr} {kk : Nat} (h : X.K = K) (hg : Gl X "zip") (hm : X.mg "zip" = none) (ha : PA X [e, e2] ta)
    (hs : starEach [e, e2] X.env = (false, eval e X.env) :: starEach [e2] X.env := by rfl) (hpl : (backTo pos (starEach [e2] X.env)).any (·.1) = false := by rfl) :
    PI X (.Tuple elts kk tpos) (.Call (.Name "zip" p) [e, e2] [] pos) (RZ.iZipA K ta) := h ▸ RZ.pi_zipA hg hm ha hs hpl
theorem pi_enumK {e : Expr} {ta : TA} {p pos tpos : Pos} {elts : List Expr} {kk : Nat} (h : X.K = K) (hg : Gl X "enumerate") (hm : X.mg "enumerate" = none) (ha : PA X [e] ta) (hs : starEach [e] X.env = [(false, eval e X.env)] := by rfl) :
    PI X (.Tuple elts kk tpos) (.Call (.Name "enumerate" p) [e] [] pos) (iEnum K ta) := h ▸ pi_enum hg hm ha hs
theorem pg_tupK {es : List Expr} {k : Nat} {pos : Pos} {t : TGs} {n : Nat} (h : X.K = K) (hc : X.calm = true) (ht : PGs X es t) (hn : (assignEach es X.env).length = n := by rfl) (hst : (assignEach es X.env).findIdx? (·.1) = none := by rfl) :
    PG X (.Tuple es k pos) (gTup K n t) := h ▸ pg_tup hc ht hn hst
/-- a new slice, a new list of what a thing holds -/
def rSlLI (K : PySem.W.Frag) : V → Option Int → Option Int → Hp → VK → Prop := fun x lo hi H Q => ∃ a xs, x = .ref a ∧ SqL K H a xs ∧ ∀ p H', Same H H' → H p = none → H' p = some (.lst (cutV xs lo hi)) → Q (.ref p) H'
theorem slL (h : X.K = K) : SlR X (rSlLI K) := fun pins s σ H x v vl vu lo hi sl Q I rx hs pl pu ⟨a, xs, e, q, k⟩ =>
  sl_list pins s σ H x v vl vu lo hi sl Q I rx hs pl pu ⟨a, xs, e, h ▸ q, fun p hp => k p _ (same_new hp) hp upd_same⟩
def rListI (K : PySem.W.Frag) : List V → Hp → VK → Prop := fun xs H Q => ∃ p ys, xs = [.ref p] ∧ (SqL K H p ys ∨ SqT K H p ys) ∧ ∀ l H', Same H H' → H l = none → H' l = some (.lst ys) → Q (.ref l) H'
theorem listI (h : X.K = K) : CallR X (.type "list") (rListI K) := fun pins s σ H xs us Q I r ⟨p, ys, e, q, k⟩ =>
  call_list_of pins s σ H xs us Q I r ⟨p, ys, e, h ▸ q, fun l hl => k l _ (same_new hl) hl upd_same⟩
end
/-! lists of fractions: addresses, tops, bottoms -/
abbrev Fq := Addr × Int × Int
def refs (l : List Fq) : List V := l.map fun z => V.ref z.1
def dat (z : Fq) : PyData := .tuple [.int z.2.1, .int z.2.2]
structure FqAt (H : Hp) (n : Nat) (z : Fq) : Prop where
  at_ : H z.1 = some (.tup [.int z.2.1, .int z.2.2])
  low : IsLow z.2.1 z.2.2
  ta : z.2.1.natAbs ≤ 10 ^ 41 + n
  tb : z.2.2.natAbs ≤ 10 ^ 41 + n
def FrL (H : Hp) (n : Nat) (l : List Fq) : Prop := ∀ z ∈ l, FqAt H n z
theorem FqAt.fr {H H' : Hp} {p : Addr} {n m k : Nat} {z : Fq} (h : FqAt H n z) (B : BoxAt H p m) (f : Fr p H H') (le : n ≤ k) : FqAt H' k z := ⟨f.tup B h.at_, h.low, by have := h.ta; omega, by have := h.tb; omega⟩
theorem FqAt.same {H H' : Hp} {n : Nat} {z : Fq} (h : FqAt H n z) (s : Same H H') : FqAt H' n z := ⟨s _ _ h.at_, h.low, h.ta, h.tb⟩
theorem FrL.fr {H H' : Hp} {p : Addr} {n m k : Nat} {l : List Fq} (h : FrL H n l) (B : BoxAt H p m) (f : Fr p H H') (le : n ≤ k) : FrL H' k l := fun z hz => (h z hz).fr B f le
theorem FrL.same {H H' : Hp} {n : Nat} {l : List Fq} (h : FrL H n l) (s : Same H H') : FrL H' n l := fun z hz => (h z hz).same s
theorem FqAt.wide {H : Hp} {n : Nat} {z : Fq} (h : FqAt H n z) (le : n ≤ 1000) : z.2.1.natAbs < 2 ^ 200 ∧ z.2.2.natAbs < 2 ^ 200 := by
  have h1 := h.ta
  have h2 := h.tb
  have e : 10 ^ 41 + 1000 < 2 ^ 200 := by decide
  omega
theorem refs_len (l : List Fq) : (refs l).length = l.length := List.length_map _
theorem refs_get {l : List Fq} {i : Nat} {z : Fq} (h : l[i]? = some z) : (refs l)[i]? = some (.ref z.1) := by
  unfold refs
  rw [List.getElem?_map, h] <;> rfl
theorem refs_of {l : List Fq} {i : Nat} {x : V} (h : (refs l)[i]? = some x) : ∃ z, l[i]? = some z ∧ x = .ref z.1 := by
  unfold refs at h
  rw [List.getElem?_map] at h
  cases e : l[i]? with
  | none =>
    rw [e] at h
    cases h
  | some z =>
    rw [e] at h
    exact ⟨z, rfl, (Option.some.inj h).symm⟩
theorem dp_pair {K : PySem.W.Frag} {H : Hp} {a : Addr} {t b : Int} (h : H a = some (.tup [.int t, .int b])) : Dp K H (.ref a) (.tuple [.int t, .int b]) := .tup (SqT.of h) (.cons (.int _) (.cons (.int _) .nil))
theorem FrL.dps {K : PySem.W.Frag} {H : Hp} {n : Nat} : ∀ {l : List Fq}, FrL H n l → DpAll K H (refs l) (l.map dat)
  | [], _ => .nil
  | z :: r, h => .cons (dp_pair (h z List.mem_cons_self).at_) (FrL.dps fun y hy => h y (List.mem_cons_of_mem _ hy))
theorem dats_lay (l : List Fq) : PyData.canLayAll0 (l.map dat) = true ∧ PyData.depthAll (l.map dat) ≤ 1 := by
  induction l with
  | nil => exact ⟨rfl, by decide⟩
  | cons z r ih =>
    refine ⟨?_, ?_⟩
    · show (PyData.canLay0 (dat z) && PyData.canLayAll0 (r.map dat)) = true
      rw [ih.1]
      rfl
    · show max (PyData.depth (dat z)) (PyData.depthAll (r.map dat)) ≤ 1
      have e : PyData.depth (dat z) = 1 := rfl
      omega
theorem dats_shaped (l : List Fq) : SeqAt.shaped (.list (l.map dat)) = true := by
  obtain ⟨h1, h2⟩ := dats_lay l
  show (PyData.canLayAll0 (l.map dat) && decide (PyData.depthAll (l.map dat) + 1 ≤ 64)) = true
  rw [h1, decide_eq_true (by omega)] <;> rfl
theorem dats_nil (l : List Fq) : PyData.eqv (.list (l.map dat)) (.list []) = l.isEmpty := by
  cases l <;> rfl
theorem eqv_pair {a b c d : Int} : PyData.eqv (.tuple [.int a, .int b]) (.tuple [.int c, .int d]) = decide (a = c ∧ b = d) := by
  show ((a == c) && ((b == d) && true)) = decide (a = c ∧ b = d)
  rw [Bool.and_true, Bool.decide_and]
  rfl
/-! data of any make beside the box p -/
inductive Da (p : Addr) (H : Hp) : Nat → V → PyData → Prop
  | non (n : Nat) : Da p H (n + 1) .non .none
  | bl (n : Nat) (b : Bool) : Da p H (n + 1) (.bl b) (.bool b)
  | int (n : Nat) (i : Int) : Da p H (n + 1) (.int i) (.int i)
  | str (n : Nat) (x : Str) : Da p H (n + 1) (.str x) (.str x)
  | lst {n : Nat} {a : Addr} {xs : List V} {ds : List PyData} : a ≠ p → H a = some (.lst xs) → xs.length = ds.length → xs.length ≤ 100000 → (∀ (i : Nat) (x : V) (d : PyData), xs[i]? = some x → ds[i]? = some d → Da p H n x d) → Da p H (n + 1) (.ref a) (.list ds)
  | tup {n : Nat} {a : Addr} {xs : List V} {ds : List PyData} : a ≠ p → H a = some (.tup xs) → xs.length = ds.length → xs.length ≤ 100000 → (∀ (i : Nat) (x : V) (d : PyData), xs[i]? = some x → ds[i]? = some d → Da p H n x d) → Da p H (n + 1) (.ref a) (.tuple ds)
theorem Da.fr {p : Addr} {H H' : Hp} (s : Fr p H H') : ∀ {n : Nat} {v : V} {d : PyData}, Da p H n v d → Da p H' n v d := by
  intro n v d h
  induction h with
  | non n => exact .non n
  | bl n b => exact .bl n b
  | int n i => exact .int n i
  | str n x => exact .str n x
  | lst h0 h1 h2 h3 _ ih => exact .lst h0 (s _ _ h0 h1) h2 h3 ih
  | tup h0 h1 h2 h3 _ ih => exact .tup h0 (s _ _ h0 h1) h2 h3 ih
theorem Da.up {p : Addr} {H : Hp} {n m : Nat} {v : V} {d : PyData} (h : Da p H n v d) : n ≤ m → Da p H m v d := by
  intro le
  induction h generalizing m with
  | non n => obtain ⟨k, rfl⟩ : ∃ k, m = k + 1 := ⟨m - 1, by omega⟩; exact .non k
  | bl n b => obtain ⟨k, rfl⟩ : ∃ k, m = k + 1 := ⟨m - 1, by omega⟩; exact .bl k b
  | int n i => obtain ⟨k, rfl⟩ : ∃ k, m = k + 1 := ⟨m - 1, by omega⟩; exact .int k i
  | str n x => obtain ⟨k, rfl⟩ : ∃ k, m = k + 1 := ⟨m - 1, by omega⟩; exact .str k x
  | lst h0 h1 h2 h3 _ ih => obtain ⟨k, rfl⟩ : ∃ k, m = k + 1 := ⟨m - 1, by omega⟩; exact .lst h0 h1 h2 h3 fun i x d a b => ih i x d a b (by omega)
  | tup h0 h1 h2 h3 _ ih => obtain ⟨k, rfl⟩ : ∃ k, m = k + 1 := ⟨m - 1, by omega⟩; exact .tup h0 h1 h2 h3 fun i x d a b => ih i x d a b (by omega)
/-- each of a row is such data -/
def AllDa (p : Addr) (H : Hp) (n : Nat) (xs : List V) : Prop := ∀ x ∈ xs, ∃ d, Da p H n x d
theorem AllDa.fr {p : Addr} {H H' : Hp} {n : Nat} {xs : List V} (h : AllDa p H n xs) (s : Fr p H H') : AllDa p H' n xs := fun x hx => (h x hx).elim fun d q => ⟨d, q.fr s⟩
theorem AllDa.up {p : Addr} {H : Hp} {n m : Nat} {xs : List V} (h : AllDa p H n xs) (le : n ≤ m) : AllDa p H m xs := fun x hx => (h x hx).elim fun d q => ⟨d, q.up le⟩
theorem AllDa.nil {p : Addr} {H : Hp} {n : Nat} : AllDa p H n [] := fun x hx => absurd hx List.not_mem_nil
theorem AllDa.cons {p : Addr} {H : Hp} {n : Nat} {x : V} {xs : List V} (h : ∃ d, Da p H n x d) (t : AllDa p H n xs) : AllDa p H n (x :: xs) := fun y hy => by
  rcases List.mem_cons.mp hy with e | e
  · rw [e]
    exact h
  · exact t y e
theorem AllDa.append {p : Addr} {H : Hp} {n : Nat} {xs ys : List V} (h : AllDa p H n xs) (t : AllDa p H n ys) : AllDa p H n (xs ++ ys) := fun y hy => by
  rcases List.mem_append.mp hy with e | e
  · exact h y e
  · exact t y e
/-- what the datas of a row are -/
theorem AllDa.pick {p : Addr} {H : Hp} {n : Nat} : ∀ {xs : List V}, AllDa p H n xs → ∃ ds : List PyData, xs.length = ds.length ∧ ∀ (i : Nat) (x : V) (d : PyData), xs[i]? = some x → ds[i]? = some d → Da p H n x d
  | [], _ => ⟨[], rfl, fun i x d h => by simp at h⟩
  | x :: xs, h => by
    obtain ⟨d, q⟩ := h x List.mem_cons_self
    obtain ⟨ds, e, r⟩ := AllDa.pick (xs := xs) fun y hy => h y (List.mem_cons_of_mem _ hy)
    refine ⟨d :: ds, by rw [List.length_cons, List.length_cons, e], fun i y c h1 h2 => ?_⟩
    match i, h1, h2 with
    | 0, h1, h2 => cases h1; cases h2; exact q
    | i + 1, h1, h2 => exact r i y c h1 h2
theorem AllDa.tup {p : Addr} {H : Hp} {n : Nat} {xs : List V} {a : Addr} (h : AllDa p H n xs) (ne : a ≠ p) (e : H a = some (.tup xs)) (z : Nat.ble xs.length 100000 = true := by rfl) : ∃ d, Da p H (n + 1) (.ref a) d := by
  obtain ⟨ds, l, r⟩ := h.pick
  exact ⟨_, .tup ne e l (Nat.le_of_ble_eq_true z) r⟩
theorem AllDa.lst {p : Addr} {H : Hp} {n : Nat} {xs : List V} {a : Addr} (h : AllDa p H n xs) (ne : a ≠ p) (e : H a = some (.lst xs)) (z : Nat.ble xs.length 100000 = true := by rfl) : ∃ d, Da p H (n + 1) (.ref a) d := by
  obtain ⟨ds, l, r⟩ := h.pick
  exact ⟨_, .lst ne e l (Nat.le_of_ble_eq_true z) r⟩
theorem daI {p : Addr} {H : Hp} {n : Nat} (i : Int) : ∃ d, Da p H (n + 1) (.int i) d := ⟨_, .int n i⟩
theorem daB {p : Addr} {H : Hp} {n : Nat} (b : Bool) : ∃ d, Da p H (n + 1) (.bl b) d := ⟨_, .bl n b⟩
theorem daS {p : Addr} {H : Hp} {n : Nat} (x : Str) : ∃ d, Da p H (n + 1) (.str x) d := ⟨_, .str n x⟩
theorem daN {p : Addr} {H : Hp} {n : Nat} : ∃ d, Da p H (n + 1) .non d := ⟨_, .non n⟩
theorem AllDa.one {p : Addr} {H : Hp} {n m : Nat} {x : V} (h : ∃ d, Da p H n x d) (le : n ≤ m) : AllDa p H m [x] := .cons (h.elim fun d q => ⟨d, q.up le⟩) .nil
theorem AllDa.two {p : Addr} {H : Hp} {n : Nat} {x y : V} (h : ∃ d, Da p H n x d) (k : ∃ d, Da p H n y d) : AllDa p H n [x, y] := .cons h (.cons k .nil)
theorem da_fr {p : Addr} {H H' : Hp} {n : Nat} {v : V} (h : ∃ d, Da p H n v d) (s : Fr p H H') : ∃ d, Da p H' n v d := h.elim fun d q => ⟨d, q.fr s⟩
theorem da_up {p : Addr} {H : Hp} {n m : Nat} {v : V} (h : ∃ d, Da p H n v d) (le : n ≤ m) : ∃ d, Da p H m v d := h.elim fun d q => ⟨d, q.up le⟩
theorem BoxAt.new {H : Hp} {p a : Addr} {n : Nat} (h : BoxAt H p n) (e : H a = none) : a ≠ p := by
  obtain ⟨o, ho⟩ := h.some
  exact (ne_of_none ho e).symm
/-- an item at a place that is there -/
theorem at_some {xs : List V} {z : Int} (h0 : 0 ≤ z) (h1 : z < (xs.length : Int)) : ∃ v, atI xs z = some v ∧ v ∈ xs := by
  have g : xs[z.toNat]? = some xs[z.toNat] := List.getElem?_eq_getElem (by omega)
  exact ⟨_, at_of (j := z.toNat) (by omega) g, List.getElem_mem _⟩
/-- which kinds of built-in classes a data is of -/
def isTupD : PyData → Bool
  | .tuple _ => true
  | _ => false
def isIntD : PyData → Bool
  | .int _ => true
  | .bool _ => true
  | _ => false
def isBoolD : PyData → Bool
  | .bool _ => true
  | _ => false
def isListD : PyData → Bool
  | .list _ => true
  | _ => false
def isStrD : PyData → Bool
  | .str _ => true
  | _ => false
structure Kinds (K : PySem.W.Frag) (H : Hp) (v : V) (d : PyData) (t : String) : Prop where
  ty : TyX K H v (.type t)
  tup : kitB t "tuple" = some (isTupD d)
  lst : kitB t "list" = some (isListD d)
  int : kitB t "int" = some (isIntD d)
  bool : kitB t "bool" = some (isBoolD d)
  str : kitB t "str" = some (isStrD d)
theorem Da.kinds {K : PySem.W.Frag} {p : Addr} {H : Hp} {n : Nat} {v : V} {d : PyData} (h : Da p H n v d) : ∃ t, Kinds K H v d t := by
  cases h with
  | non => exact ⟨"NoneType", .base .non, by decide +kernel, by decide +kernel, by decide +kernel, by decide +kernel, by decide +kernel⟩
  | bl _ b => exact ⟨"bool", .base (.bl b), by show _ = some false; decide +kernel, by show _ = some false; decide +kernel, by show _ = some true; decide +kernel, by show _ = some true; decide +kernel, by show _ = some false; decide +kernel⟩
  | int _ i => exact ⟨"int", .base (.int i), by show _ = some false; decide +kernel, by show _ = some false; decide +kernel, by show _ = some true; decide +kernel, by show _ = some false; decide +kernel, by show _ = some false; decide +kernel⟩
  | str _ x => exact ⟨"str", .base (.str x), by show _ = some false; decide +kernel, by show _ = some false; decide +kernel, by show _ = some false; decide +kernel, by show _ = some false; decide +kernel, by show _ = some true; decide +kernel⟩
  | lst _ a1 => exact ⟨"list", .base (.lst a1), by show _ = some false; decide +kernel, by show _ = some true; decide +kernel, by show _ = some false; decide +kernel, by show _ = some false; decide +kernel, by show _ = some false; decide +kernel⟩
  | tup _ a1 => exact ⟨"tuple", .base (.tup a1), by show _ = some true; decide +kernel, by show _ = some false; decide +kernel, by show _ = some false; decide +kernel, by show _ = some false; decide +kernel, by show _ = some false; decide +kernel⟩
/-- repr of a truth -/
theorem cr_reprB {X : Cx} : CallR X (.builtin "repr") (fun xs H Q => ∃ b : Bool, xs = [.bl b] ∧ Q (.str (if b = true then "True" else "False")) H) := by
  intro pins s σ H xs us Q I r h
  obtain ⟨b, rfl, q⟩ := h
  cases r with
  | cons r1 r2 =>
    cases r2
    cases r1
    exact PySem.P.repr_of_bool ⟨.str _, H, I.tok _, ⟨_, rfl⟩, q⟩
/-- xs + ys, a new list -/
def rCatI : R2 := fun x y H Q => ∃ l b xs zs, x = .ref l ∧ y = .ref b ∧ H l = some (.lst xs) ∧ H b = some (.lst zs) ∧ xs.length + zs.length ≤ sizeLine ∧ ∀ p H', Same H H' → H p = none → H' p = some (.lst (xs ++ zs)) → Q (.ref p) H'
theorem op_catI {X : Cx} : OpR X (binaryOp .Add) rCatI := fun pins s σ H x y v u Q I rx ry ⟨l, b, xs, zs, e1, e2, h1, h2, z, k⟩ =>
  op_cat pins s σ H x y v u Q I rx ry ⟨l, b, xs, zs, e1, e2, h1, h2, z, fun p hp => k p _ (same_new hp) hp upd_same⟩
/-- a number; a fraction -/
def isNumD (d : PyData) : Bool := isIntD d && !isBoolD d
def isFracD : PyData → Bool
  | .tuple [.int t, .int b] => decide (0 < b) && decide (Nat.gcd t.natAbs b.natAbs = 1)
  | _ => false
theorem frac_no {d e : PyData} (h : isNumD d = false ∨ isNumD e = false) : isFracD (.tuple [d, e]) = false := by
  cases d <;> cases e <;> first | rfl | (rcases h with h | h <;> cases h)
theorem frac_len {ds : List PyData} (h : ds.length ≠ 2) : isFracD (.tuple ds) = false := by
  match ds, h with
  | [], _ => rfl
  | [d], _ => cases d <;> rfl
  | [_, _], h => exact absurd rfl h
  | d :: e :: _ :: _, _ => cases d <;> cases e <;> rfl
theorem num_int {p : Addr} {H : Hp} {n : Nat} {v : V} {d : PyData} (h : Da p H n v d) (k : isNumD d = true) : ∃ i, d = .int i ∧ v = .int i := by
  cases h with
  | int _ i => exact ⟨i, rfl, rfl⟩
  | non => cases k
  | bl => cases k
  | str => cases k
  | lst => cases k
  | tup => cases k
/-- rows of truths as data -/
theorem dps_bools {K : PySem.W.Frag} {H : Hp} : ∀ bs : List Bool, DpAll K H (bs.map V.bl) (bs.map PyData.bool)
  | [] => .nil
  | b :: r => .cons (.bl b) (dps_bools r)
theorem bools_shaped (bs : List Bool) : SeqAt.shaped (.list (bs.map PyData.bool)) = true := by
  have h : PyData.canLayAll0 (bs.map PyData.bool) = true ∧ PyData.depthAll (bs.map PyData.bool) = 0 := by
    induction bs with
    | nil => exact ⟨rfl, rfl⟩
    | cons b r ih =>
      refine ⟨?_, ?_⟩
      · show (PyData.canLay0 (.bool b) && PyData.canLayAll0 (r.map PyData.bool)) = true
        rw [ih.1] <;> rfl
      · show max (PyData.depth (.bool b)) (PyData.depthAll (r.map PyData.bool)) = 0
        rw [ih.2] <;> rfl
  show (PyData.canLayAll0 (bs.map PyData.bool) && decide (PyData.depthAll (bs.map PyData.bool) + 1 ≤ 64)) = true
  rw [h.1, h.2] <;> rfl
theorem take_one {α : Type} {l : List α} {i : Nat} {x : α} (h : l[i]? = some x) : l.take (i + 1) = l.take i ++ [x] := by
  rw [List.take_add_one, h] <;> rfl
end KR
/-! ### texts -/
namespace KR
open PySem PySem.Spec PyProof.Rows L2
theorem strs_of : ∀ {ys : List Str} {us : List Value}, Vals (ys.map V.str) us → StrsAre us ys
  | [], _, .nil => .nil
  | y :: r, _, .cons h t => by
    obtain ⟨k, rfl⟩ := h
    exact .cons y k (strs_of t)
section
variable {X : Cx} {K : PySem.W.Frag}
/-- sep.join(it), it a list walked from its end -/
theorem join_rev {prog : Program} {w : World} {A : Around} {E : Value → Shared → Prop} {s : Shared} {x : Str} {t : Tok} {it l : Addr} {items : Array Value} {ys : List Str} {Q : Value → Shared → Prop} (hh : A.handled = none)
    (hit : s.heap.IsRevIter it l ((items.size : Int) - 1)) (hl : s.heap.IsList l items) (hne : l ≠ it) (hn : items.size ≤ sizeLine)
    (hP : ∀ acc : Array Value, ItemsOf (fun i v => items[items.size - 1 - i]? = some v) acc items.size → StrsAre acc.toList ys) (hok : (ys.map (·.length)).sum + ys.length * x.length ≤ 16777216)
    (hq : ∀ (h' : Heap) (t' k : Nat), (∀ b o, b ≠ it → s.heap.get? b = some o → h'.get? b = some o) → Q (.str (Txt.join x ys) t') { s with heap := h', toks := k }) :
    wpAny (model prog w) A (call (.builtin "str.join") [.str x t, .ref it]) Q E s := by
  apply wpAny_call
  refine codeAny_call_builtin F.slot_str_join.plain F.entry_str_join (F.slot_str_join.check _ _ _ _ _ _ _ _ (typeIs_str _ _ _) (F.args_str_join_2 _ _) ?_)
  rw [join_tree_other]
  refine wpAny_bind (wpAny_typeOf hit.typeIs ?_)
  show wpAny _ A.in1 ((pyIter (.ref it)).tryCatch _ >>= fun j => collect j >>= fun vs => joinTail x vs) _ _ s
  refine wpAny_bind (wpAny_tryCatch (wpAny_pyIter_revIter hit (wpAny_bind (RT.collect_rev (A := A.in1) hh hit hl hne hn fun h' tk acc hk hacc => ?_))))
  obtain ⟨ps, e1, e2⟩ := strsAre_values (hP acc hacc)
  subst e2
  rw [e1]
  have fits := joinOk_of hok
  unfold JoinOk at fits
  rw [Bool.not_eq_true'] at fits
  have g : Gives (joinTail x (strValues ps)) (joinMade x ps) := by
    have g0 := gives_joinTail x ps fits
    rcases ps with _ | ⟨a, _ | ⟨b, r⟩⟩ <;> exact g0
  exact g prog w A (wants Q E) { s with heap := h', toks := tk } (post_join ps ⟨joinFit_length fits, fun t' k => hq h' t' k hk⟩)
/-- sep.join(reversed(xs)), xs a list of texts -/
def tJoinRev (K : PySem.W.Frag) (to te : TE) : TE := fun σ H Q => to σ H fun x H1 => (∃ a, x = .str a) ∧ te σ H1 fun v H2 => ∃ (a : Str) (q : Addr) (ys : List Str), x = .str a ∧ v = .ref q ∧ SqL K H2 q (ys.map V.str) ∧ (ys.map (·.length)).sum + ys.length * a.length ≤ 16777216 ∧ Q (.str (Txt.join a ys.reverse)) H2
theorem sum_rev (l : List Nat) : l.reverse.sum = l.sum := by
  induction l with
  | nil => rfl
  | cons a r ih =>
    rw [List.reverse_cons, List.sum_append, ih, List.sum_cons, List.sum_cons, List.sum_nil]
    omega
theorem pe_joinRev {o e : Expr} {to te : TE} {apos pos p pos2 : Pos} (hK : X.K = K) (hc : X.calm = true) (hg : Gl X "reversed") (hm : X.mg "reversed" = none) (ho : PE X o to) (he : PE X e te)
    (hs1 : starEach [.Call (.Name "reversed" p) [e] [] pos2] X.env = [(false, eval (.Call (.Name "reversed" p) [e] [] pos2) X.env)] := by rfl) (hs : starEach [e] X.env = (false, eval e X.env) :: starEach [] X.env := by rfl)
    (hbase : attributeBase o "join" X.env (eval o X.env) = eval o X.env := by rfl) (hline : (apos.endLine == pos.line) = true := by rfl) :
    PE X (.Call (.Attribute o "join" apos) [.Call (.Name "reversed" p) [e] [] pos2] [] pos) (tJoinRev K to te) := by
  subst hK
  constructor
  intro pins s σ H Q I want
  refine PySem.Call_method1 hbase hs1 hline (thn (ho.run pins s σ H _ I want) ?_)
  rintro v s1 ⟨x, H1, I1, r1, ⟨a, rfl⟩, q1⟩
  obtain ⟨t, rfl⟩ : ∃ t, v = Value.str a t := r1
  refine ⟨"str", "str.join", F.plainAttrs_str, F.slot_str_join, F.type_str_join, typeIs_str _ _ _, nofun, Calls.callWith_builtin rfl (Calls.evalArgs_plain (Calls.spliced_cons ?_))⟩
  refine Call_ (ld_blt I1 hg hm PyProof.Rows.boot_reversed (PyProof.Rows.callWith_type1 (args_cons (thn (he.run pins s1 σ H1 _ I1 q1) ?_) hs) hs rfl))
  rintro u s2 ⟨y, H2, I2, r2, a', q, ys, ea, rfl, hq, hz, k⟩
  cases ea
  cases r2
  obtain ⟨its, rv, pl, hsz⟩ := I2.list hq
  refine args_nil (call_reversed_list pl.isList (Calls.spliced_nil ?_))
  have old : ∀ b o, s2.heap.get? b = some o → (s2.heap.push (revObj q ((its.toArray.size : Int) - 1))).get? b = some o := fun b o g => Heap.get?_push_of_some _ g
  obtain ⟨oq, hoq, _⟩ := id pl.isList
  have neq : q ≠ s2.heap.objs.size := Nat.ne_of_lt (Heap.lt_size hoq)
  have len : its.toArray.size ≤ sizeLine := by rw [List.size_toArray, ← rv.length]; exact hsz
  refine join_rev (s := { s2 with heap := s2.heap.push (revObj q ((its.toArray.size : Int) - 1)) }) (ys := ys.reverse) (I2.ok.hd hc) ⟨_, Heap.get?_push_size _ rfl, rfl, rfl⟩ (pl.isList.push _) neq len (fun acc hacc => strs_of ?_) ?_ fun h' t' k' keep => ?_
  · rw [List.map_reverse]
    exact RT.vals_rev rv hacc
  · rw [List.map_reverse, sum_rev, List.length_reverse]
    exact hz
  · exact ⟨.str _, H2, I2.kept (t' := k') (fun b o g => keep b o (Nat.ne_of_lt (Heap.lt_size g)) (old b o g)), ⟨t', rfl⟩, k⟩
end
/-! texts as rows of codes -/
abbrev S (l : List Nat) : Str := ⟨l.toArray⟩
theorem tl_S (l : List Nat) : TL.tl (S l) = l := rfl
theorem S_tl (x : Str) : S (TL.tl x) = x := TL.mk_tl x
theorem S_len (l : List Nat) : (S l).length = l.length := by rw [TL.len_tl]
theorem S_app (l m : List Nat) : S l ++ S m = S (l ++ m) := TL.ext_tl (by rw [TL.tl_append])
theorem S_inj {l m : List Nat} (h : S l = S m) : l = m := congrArg TL.tl h
theorem lit_minus : ("-" : Str) = S [45] := by decide +kernel
theorem lit_stroke : ("/" : Str) = S [47] := by decide +kernel
theorem lit_one : ("1" : Str) = S [49] := by decide +kernel
theorem lit_zero : ("0" : Str) = S [48] := by decide +kernel
theorem lit_none : ("" : Str) = S [] := by decide +kernel
theorem lit_empty : Str.empty = S [] := by decide +kernel
theorem lit_digits : ("0123456789" : Str) = S [48, 49, 50, 51, 52, 53, 54, 55, 56, 57] := by decide +kernel
theorem num_S (n : Nat) : Str.ofString (toString ((n : Nat) : Int)) = S (TL.numL n) := TL.ext_tl (TL.tl_num n)
theorem numL_cut (n : Nat) : TL.numL n = (if n / 10 = 0 then [] else TL.numL (n / 10)) ++ [48 + n % 10] := by
  by_cases h : n < 10
  · rw [TL.numL_lt h, if_pos (by omega), show n % 10 = n by omega] <;> rfl
  · rw [TL.numL_step (by omega), if_neg (by omega)]
theorem dig_at {k : Int} (h0 : 0 ≤ k) (h1 : k < 10) : atI ("0123456789" : Str).cps.toList k = some (48 + k.toNat) := by
  rw [lit_digits]
  have ks : k = 0 ∨ k = 1 ∨ k = 2 ∨ k = 3 ∨ k = 4 ∨ k = 5 ∨ k = 6 ∨ k = 7 ∨ k = 8 ∨ k = 9 := by omega
  rcases ks with e | e | e | e | e | e | e | e | e | e <;> subst e <;> rfl
theorem lit_len : ("0123456789" : Str).length ≤ sizeLine := by decide +kernel
/-- text times a number from 0 -/
theorem op_mul_str {X : Cx} : OpR X (binaryOp .Mult) (fun x y H Q => ∃ (a : Str) (n : Nat), x = .str a ∧ y = .int (n : Int) ∧ a.length * n ≤ 100000 ∧ n ≤ 100000 ∧ Q (.str (Txt.mul a n)) H) := by
  intro pins s σ H x y v u Q I rx ry h
  obtain ⟨a, n, rfl, rfl, hz, hn, q⟩ := h
  obtain ⟨t, rfl⟩ := rx
  obtain ⟨t', rfl⟩ := ry
  refine SB.mul ⟨?_, fun h1 h2 => ?_, fun h1 h2 => ?_⟩ fun t2 k => ⟨.str _, H, I.tok _, ⟨_, rfl⟩, q⟩
  · rw [decide_eq_false (by omega), decide_eq_false (by omega)] <;> rfl
  · have n1 : (1 : Int) ≤ (n : Int) := by omega
    intro bad
    have b2 : ((2 ^ 63 - 1 : Int)) / (n : Int) ≥ (2 ^ 63 - 1 : Int) / 100000 := by
      refine Int.le_ediv_of_mul_le (by omega) ?_
      have e : (2 ^ 63 - 1 : Int) / 100000 * (n : Int) ≤ (2 ^ 63 - 1 : Int) / 100000 * 100000 := Int.mul_le_mul_of_nonneg_left (by omega) (by decide)
      exact Int.le_trans e (by decide)
    have a9 : a.length ≤ 100000 := by
      have : a.length * 1 ≤ a.length * n := Nat.mul_le_mul_left _ (by omega)
      omega
    have e3 : (2 ^ 63 - 1 : Int) / 100000 = 92233720368547 := by decide
    omega
  · rw [Int.toNat_natCast]
    exact decide_eq_false (by have := small hz; omega)
theorem mul_zero (a : Str) : Txt.mul a ((0 : Nat) : Int) = S [] := by
  unfold Txt.mul
  rw [if_pos (by decide), lit_empty]
theorem mul_one (a : Str) : Txt.mul a ((1 : Nat) : Int) = a := by
  unfold Txt.mul
  rw [if_neg (by decide), if_pos (by rfl)]
/-- a minus ahead, cut off -/
theorem sub_minus (l : List Nat) : Builtin.Str.subAt (S l) (S [45]) 0 = (l.head? == some 45) := by
  unfold Builtin.Str.subAt
  rcases l with _ | ⟨c, r⟩
  · rfl
  · have e : ((S (c :: r)).cps.extract 0 (0 + (S [45]).length)) = #[c] := by
      apply Array.toList_inj.mp
      rw [Array.toList_extract]
      rfl
    rw [e]
    show (#[c] == #[45]) = (some c == some 45)
    by_cases h : c = 45
    · subst h
      rfl
    · have e2 : (some c == some 45) = false := by
        rw [beq_eq_false_iff_ne]
        exact fun z => h (Option.some.inj z)
      rw [e2, beq_eq_false_iff_ne]
      intro z
      exact h (by have := congrArg (fun a => a[0]?) z; simpa using this)
theorem prefix_minus (l : List Nat) : Txt.removeprefix (S l) (S [45]) = S (if l.head? = some 45 then l.tail else l) := by
  unfold Txt.removeprefix
  rw [sub_minus]
  by_cases h : l.head? = some 45
  · rw [if_pos h, if_pos (by rw [h] <;> rfl)]
    rcases l with _ | ⟨c, r⟩
    · cases h
    · show (if ((S (c :: r)).length - (S [45]).length == (S (c :: r)).length) = true then S (c :: r) else Builtin.Str.strSub (S (c :: r)) (S [45]).length (S (c :: r)).length) = S r
      have e1 : (S (c :: r)).length = r.length + 1 := by rw [S_len] <;> rfl
      have e2 : (S [45]).length = 1 := rfl
      rw [if_neg (by rw [e1, e2, beq_iff_eq]; omega)]
      apply TL.ext_tl
      show ((S (c :: r)).cps.extract (S [45]).length (S (c :: r)).length).toList = r
      rw [Array.toList_extract, e1, e2]
      show List.take (r.length + 1 - 1) (List.drop 1 (c :: r)) = r
      rw [Nat.add_sub_cancel]
      exact List.take_length
  · rw [if_neg h, if_neg (by rw [beq_iff_eq]; exact h)]
    rfl
theorem starts_minus (l : List Nat) : Txt.startswith (S l) (S [45]) = (l.head? == some 45) := by
  unfold Txt.startswith
  rw [sub_minus]
  rcases l with _ | ⟨c, r⟩
  · rfl
  · rw [decide_eq_true (show 0 + (S [45]).length ≤ (S (c :: r)).length by rw [S_len, S_len]; show 0 + 1 ≤ r.length + 1; omega), Bool.true_and]
/-- one to so many figures -/
def figs (l : List Nat) : Bool := !l.isEmpty && l.all fun c => decide (48 ≤ c) && decide (c ≤ 57)
theorem ascii_S (l : List Nat) : Txt.isascii (S l) = l.all (· < 128) := by
  unfold Txt.isascii
  rw [← Array.all_toList]
theorem dig_code : ∀ c, c < 128 → Unicode.isDigit c = (decide (48 ≤ c) && decide (c ≤ 57)) := by decide +kernel
theorem digit_S {l : List Nat} (h : l.all (· < 128) = true) : Txt.isdigit (S l) = figs l := by
  unfold Txt.isdigit figs
  rw [← Array.all_toList, S_len]
  have e1 : decide (l.length > 0) = !l.isEmpty := by
    cases l <;> rfl
  have e2 : l.all Unicode.isDigit = l.all fun c => decide (48 ≤ c) && decide (c ≤ 57) := by
    rw [List.all_eq_true] at h
    clear e1
    induction l with
    | nil => rfl
    | cons c r ih =>
      rw [List.all_cons, List.all_cons, ih fun x hx => h x (List.mem_cons_of_mem _ hx), dig_code c (of_decide_eq_true (h c List.mem_cons_self))]
  rw [e1]
  exact congrArg _ e2
theorem figs_ascii {l : List Nat} (h : figs l = true) : l.all (· < 128) = true := by
  unfold figs at h
  rw [Bool.and_eq_true] at h
  have h3 := List.all_eq_true.mp h.2
  rw [List.all_eq_true]
  intro c hc
  have := h3 c hc
  rw [Bool.and_eq_true] at this
  have h2 := of_decide_eq_true this.2
  exact decide_eq_true (by omega)
theorem figs_num (n : Nat) : figs (TL.numL n) = true := by
  unfold figs
  rw [Bool.and_eq_true]
  refine ⟨?_, ?_⟩
  · have := TL.numL_ne n
    cases e : TL.numL n with
    | nil => exact absurd e this
    | cons _ _ => rfl
  · rw [List.all_eq_true]
    intro c hc
    have := TL.numL_digits n c hc
    rw [decide_eq_true this.1, decide_eq_true this.2] <;> rfl
theorem figs_int {l : List Nat} (h : figs l = true) (z : l.length ≤ 600) : PySem.intText? (S l) = some ((NumText.digitsVal l : Nat) : Int) := by
  unfold figs at h
  rw [Bool.and_eq_true] at h
  have d : NumText.AllDigits l := fun c hc => by
    have := List.all_eq_true.mp h.2 c hc
    rw [Bool.and_eq_true] at this
    exact ⟨of_decide_eq_true this.1, of_decide_eq_true this.2⟩
  have ne : l ≠ [] := by
    intro e
    rw [e] at h
    exact Bool.noConfusion h.1
  exact PySem.intText_digits (x := S l) d ne (by rw [S_len]; omega)
/-- a fraction's text -/
def fracL (t b : Int) : List Nat := (if t < 0 then [45] else []) ++ (TL.numL t.natAbs ++ (if b = 1 then [] else 47 :: TL.numL b.natAbs))
/-- ahead of the first stroke, whether there is one, behind it -/
def cutL : List Nat → List Nat × Bool × List Nat
  | [] => ([], false, [])
  | c :: r => if c = 47 then ([], true, r) else (c :: (cutL r).1, (cutL r).2)
theorem cut_app {a b : List Nat} (h : 47 ∉ a) : cutL (a ++ 47 :: b) = (a, true, b) := by
  induction a with
  | nil => rfl
  | cons c r ih =>
    have hc : c ≠ 47 := fun e => h (by rw [e]; exact List.mem_cons_self)
    have ih' := ih fun m => h (List.mem_cons_of_mem _ m)
    show (if c = 47 then _ else (c :: (cutL (r ++ 47 :: b)).1, (cutL (r ++ 47 :: b)).2)) = _
    rw [if_neg hc, ih']
theorem cut_none {a : List Nat} (h : 47 ∉ a) : cutL a = (a, false, []) := by
  induction a with
  | nil => rfl
  | cons c r ih =>
    have hc : c ≠ 47 := fun e => h (by rw [e]; exact List.mem_cons_self)
    have ih' := ih fun m => h (List.mem_cons_of_mem _ m)
    show (if c = 47 then _ else (c :: (cutL r).1, (cutL r).2)) = _
    rw [if_neg hc, ih']
/-- either no stroke, or the first one -/
theorem cut_ways (l : List Nat) : (47 ∉ l ∧ cutL l = (l, false, [])) ∨ ∃ a b, l = a ++ 47 :: b ∧ 47 ∉ a ∧ cutL l = (a, true, b) := by
  by_cases h : 47 ∈ l
  · obtain ⟨a, b, e, n⟩ := List.eq_append_cons_of_mem h
    exact .inr ⟨a, b, e, n, by rw [e]; exact cut_app n⟩
  · exact .inl ⟨h, cut_none h⟩
end KR
/-! ### defs that ask repr: no repr is under way around them -/
namespace KR
open PySem PySem.Spec PyProof.Rows L2
section
variable {P : Program} {w : World} {K : PySem.W.Frag} {mg : Str → Option Value} {base : Heap}
structure FnG (P : Program) (w : World) (K : PySem.W.Frag) (mg : Str → Option Value) (base : Heap) (k : Nat) (f : Addr) (fd : FuncData) (ps : List Str) (sp : Sp) : Prop where
  many : ∀ vs H Q E, sp vs H Q E → vs.length = ps.length
  does : ∀ (A : Around) (outer : List Env) (s : Shared) (H : Hp) (args : Args) (us : List Value) (vs : List V) (Q : VK) (E : XK), Room k A → A.guards = some [] → Env0 P w K mg base A outer s H → BindsTo s fd args (ps.zip us) → Vals vs us →
    sp vs H Q E → codeAny (model P w) A (.call (.ref f) args) (CR CX0 outer P w H s Q E) s
/-- the end of a def's body is the end of its call -/
theorem body_end {N : List Str} {qual : Str} {sc : Scope} {f : Addr} {cdv : Value} {A : Around} {outer : List Env} {s s' : Shared} {H : Hp} {Q : VK} {E : XK} {fl : Flow}
    (h : SP (cxOf CX0 P w K mg base N qual sc f cdv A outer s H E) [] { nx := fun _ H' => Q .non H', rt := Q } fl s') : CR CX0 outer P w H s Q E (.ok (.ret (match fl with | .ret u => u | _ => .none))) s' ∧ (∀ u, fl = .ret u ∨ fl = .next ∨ fl = .brk ∨ fl = .cont → True) ∧ fl ≠ .brk ∧ fl ≠ .cont := by
  cases fl <;> simp only [SP] at h
  case next => obtain ⟨_, H', J, q⟩ := h; exact ⟨⟨V.non, H', J.os, J.bare, J.base, J.hok, rfl, q⟩, fun _ _ => trivial, nofun, nofun⟩
  case ret u => obtain ⟨v, _, H', J, rv, q⟩ := h; exact ⟨⟨v, H', J.os, J.bare, J.base, J.hok, rv, q⟩, fun _ _ => trivial, nofun, nofun⟩
  case brk => exact absurd h.choose_spec.choose_spec.2 id
  case cont => exact absurd h.choose_spec.choose_spec.2 id
theorem okG {x qual : Str} {st : Stmt} {f : Addr} {fd : FuncData} {N ps : List Str} {k : Nat} {sp : Sp} (F : Fun K x qual st f fd) (S : FnScope N ps (defScope st)) (many : ∀ vs H Q E, sp vs H Q E → vs.length = ps.length)
    (body : ∀ (cdv : Value) (A : Around) (outer : List Env) (s : Shared) (H : Hp) (vs : List V) (Q : VK) (E : XK), Room k (A.deeper (envOfC qual (defScope st) s.heap.objs.size f cdv)) → A.guards = some [] → sp vs H Q E →
      ∃ t, PSs (cxOf CX0 P w K mg base N qual (defScope st) f cdv A outer s H E).nox (defBody st) t ∧ t { nx := fun _ H' => Q .non H', rt := Q } (start N vs) H) : FnG P w K mg base (k + 1) f fd ps sp := by
  obtain ⟨_, _, _, _, _, _, cdv, _, _, rfl, lk, hcd⟩ := F.ex
  refine ⟨many, ?_⟩
  intro A outer s H args us vs Q E hr hg e0 hb rv hsp
  obtain ⟨t, ht, hq⟩ := body cdv A outer s H vs Q E (hr.deeper _) hg hsp
  have inK : K.In s.heap := e0.mod.kin.keeps fun b o q => (e0.bs b o q).1
  apply codeAny_call_function hr.depth (inK _ _ lk) rfl S.co S.gen rfl (PySem.W.codeRec_of inK hcd)
  refine hb _ _ _ _ (wpAny_newFunctionEnv_cells S.kind ?_ ?_)
  · rintro ⟨n, v⟩ hy
    exact (S.par n (List.of_mem_zip hy).1).imp id fun q => ⟨q, PySem.W.cellsFrom_some _ _ _ (Or.inl q)⟩
  · rintro env rfl s1 made
    refine ⟨(e0.mod.nolimit.keeps fun b o q => (e0.bs b o q).1).keeps made.toInCall.keep, codeAny_func ?_⟩
    have I := inv_start (CX := CX0) (E := E) S hr.hd e0 (many _ _ _ _ hsp) rv made
    refine wpAny_mono (ht.nox.run [] s1 (start N vs) H _ I hq) (fun fl s' hs => ?_) fun _ _ z => z
    obtain ⟨r, _, n1, n2⟩ := body_end hs
    cases fl with
    | next => exact r
    | ret u => exact r
    | brk => exact absurd rfl n1
    | cont => exact absurd rfl n2
end
section
variable {X : Cx} {k : Nat} {f : Addr} {fd : FuncData} {ps : List Str} {sp : Sp} {ds : List Value} {dvs : List V} {E : XK} {x : Str} {p pos : Pos} {e : Expr} {es : List Expr} {t : TA}
/-- a call of such a def, where no repr is under way -/
theorem pe_callG (F : FnG X.prog X.w X.K X.mg X.base k f fd ps sp) (room : Room k X.A) (calm : X.A.guards = some []) (glob : Gl X x) (at_ : X.mg x = some (.ref f)) (keep : PySem.W.keepIn X.K (.ref f) = true) (binds : Binds X.K fd ps ds) (dflt : Vals dvs ds) (pass : Passes CX0 X E)
    (args : PA X (e :: es) t) (nd : (x == ("__debug__" : Str)) = false := by decide) (he : starEach (e :: es) X.env = (false, eval e X.env) :: starEach es X.env := by rfl) (hpl : (backTo pos (starEach es X.env)).any (·.1) = false := by rfl) :
    PE X (.Call (.Name x p) (e :: es) [] pos) (tCall sp dvs E t) := by
  constructor
  intro pins s σ H Q I want
  refine wpAny_Call_Name_kw (ld_glob I glob at_ (PySem.W.callWith_K (h₀ := X.base) I.ok.mod.kin keep (thn (args.run pos pins s σ H _ I want) ?_) he hpl) nd)
  rintro us s1 ⟨vs, H1, I1, r, q⟩
  have many := F.many _ _ _ _ q
  have both : Vals (vs ++ dvs) (us ++ ds) := r.append dflt
  refine ⟨I1.kIn, wpAny_call (codeAny_mono (F.does X.A X.stack s1 H1 ⟨us, []⟩ _ _ Q E room calm I1.env0 (binds s1 us I1.kIn (both.length ▸ many)) both q) ?_)⟩
  intro r s' post
  match r, post with
  | .error e, post => exact pass pins σ H1 s1 e s' I1 post
  | .ok (.ret u), post => exact I1.after post
  | .ok .next, post => exact post.elim
  | .ok .brk, post => exact post.elim
  | .ok .cont, post => exact post.elim
end
/-- a def that asks no repr is one -/
theorem FnG.of {P : Program} {w : World} {K : PySem.W.Frag} {mg : Str → Option Value} {base : Heap} {k : Nat} {f : Addr} {fd : FuncData} {ps : List Str} {sp : Sp} (F : FnOk P w K mg base CX0 k f fd ps sp) : FnG P w K mg base k f fd ps sp :=
  ⟨F.len, fun A outer s H args us vs Q E hr _ => F.run A outer s H args us vs Q E hr⟩
/-- repr of data that is no text -/
def rReprD (K : PySem.W.Frag) : List V → Hp → VK → Prop := fun xs H Q => ∃ (a : Addr) (d : PyData), xs = [.ref a] ∧ Dp K H (.ref a) d ∧ d.showable = true ∧ d.hasDict = false ∧ d.depth ≤ 60 ∧ d.shown.length ≤ sizeLine ∧ Q (.str d.shown) H
theorem cr_reprD {X : Cx} (hg : X.A.guards = some []) (hu : X.A.units + 64 < cLine) : CallR X (.builtin "repr") (rReprD X.K) := by
  intro pins s σ H xs us Q I r h
  obtain ⟨a, d, rfl, dp, sh, nd, dd, sz, q⟩ := h
  cases r with
  | cons r1 r2 =>
    cases r2
    cases r1
    obtain ⟨as, rd⟩ := Dp.reads I d _ _ dp rfl
    exact repr_of_reads' rd sh (PyData.noDict_hsm nd) hg (by omega) (fun _ _ e => e) (fun h' u tk hk => ⟨.str _, H, I.kept (fun b o e => hk b o e), ⟨_, rfl⟩, q⟩) sz
theorem cr_reprDK {X : Cx} {K : PySem.W.Frag} (h : X.K = K) (hg : X.A.guards = some []) (hu : X.A.units + 64 < cLine) : CallR X (.builtin "repr") (rReprD K) := h ▸ cr_reprD hg hu
section
variable {P : Program} {w : World} {K : PySem.W.Frag} {mg mb : Str → Option Value} {k : Nat} {fa a : Addr} {fd : FuncData} {x : Str} {sp : Sp} {s₁ : Shared} {vs : List Value} {ns : List Int}
/-- what is tracked when the law is called: the script, unless the module itself made it -/
def scr (K : PySem.W.Frag) (a : Addr) (ob : Obj) (ns : List Int) : Hp := fun b => if b = a ∧ K.lookup a = none then some (.frz ob (.lst (ns.map V.int))) else none
theorem scr_some {ob : Obj} {b : Addr} {u : HO} (h : scr K a ob ns b = some u) : b = a ∧ K.lookup a = none ∧ u = .frz ob (.lst (ns.map V.int)) := by
  unfold scr at h
  split at h
  · rename_i c
    exact ⟨c.1, c.2, (Option.some.inj h).symm⟩
  · cases h
theorem call_law (inK : K.In s₁.heap) (gl : s₁.heap.Ns mainGlobals mg) (bl : s₁.heap.Ns builtinsNs mb) (boot : ∀ x : Str, x ≠ "__name__" → mb x = bootBuiltins x) (lim : s₁.heap.NoLimit) (quiet : s₁.gens = #[])
    (there : s₁.heap.get? a = some { cls := .type "list", data := .seq vs.toArray }) (areInts : IntsAre vs ns) (len : ns.length ≤ sizeLine) (room : Room k callerA)
    (F : ∀ base : Heap, K.In base → base.Ns mainGlobals mg → FnG P w K mg base k fa fd [x] sp) (binds : ∀ (s : Shared) (u : Value), BindsTo s fd ⟨[u], []⟩ [(x, u)])
    (asked : ∀ H : Hp, Only H → SqL K H a (ns.map V.int) → sp [.ref a] H (fun v _ => v = .bl true) fun _ _ _ => False) :
    codeAny (model P w) callerA (.call (.ref fa) ⟨[.ref a], []⟩) (fun r s' => r = .ok (.ret (.bool true)) ∧ OldK s₁.heap s'.heap ∧ s'.os = s₁.os ∧ AllBare s'.gens) s₁ := by
  let ob : Obj := { cls := .type "list", data := .seq vs.toArray }
  let H := scr K a ob ns
  have at_ : ∀ {b u}, H b = some u → b = a ∧ K.lookup a = none ∧ u = .frz ob (.lst (ns.map V.int)) := scr_some
  have no : ∀ b o, s₁.heap.get? b = some o → (∀ q, o ≠ { cls := .type "list", data := .seq q }) → H b = none := fun b o e d => by
    cases c : H b with
    | none => rfl
    | some u =>
      obtain ⟨rfl, _⟩ := at_ c
      exact absurd (Option.some.inj (e.symm.trans there)) (d _)
  have keepNs : ∀ {b : Addr} {m : Str → Option Value}, s₁.heap.Ns b m → (hidT s₁.heap H).Ns b m := fun {b m} ⟨o, es, ep, e, d, r⟩ =>
    ⟨o, es, ep, hidT_get e (no b o e fun q z => by rw [z] at d; cases d), d, r⟩
  have keepK : K.In (hidT s₁.heap H) := fun b o e => hidT_get (inK b o e) (by
    cases c : H b with
    | none => rfl
    | some u =>
      obtain ⟨rfl, n, _⟩ := at_ c
      rw [n] at e
      cases e)
  have rel := vals_ints areInts
  have holds : HOk P w H s₁.heap := fun b u c => by
    obtain ⟨rfl, _, rfl⟩ := at_ c
    exact ⟨there, by rw [List.length_map]; exact len, vs, _, rel, there⟩
  have only : Only H := fun b => by
    cases c : H b with
    | none => exact Or.inl rfl
    | some u => exact Or.inr ⟨ob, _, by rw [(at_ c).2.2]⟩
  have script : SqL K H a (ns.map V.int) := by
    cases c : K.lookup a with
    | none => exact Or.inl (Or.inr ⟨ob, if_pos ⟨rfl, c⟩⟩)
    | some o =>
      have e := Option.some.inj ((inK a o c).symm.trans there)
      subst e
      exact Or.inr ⟨_, vs.toArray, _, c, rfl, rfl, rfl, by rw [List.size_toArray, areInts.length]; exact len, by simpa using rel⟩
  have modul : Mod K mg (hidT s₁.heap H) := ⟨keepK, keepNs gl, ⟨mb, keepNs bl, boot⟩, lim.elim fun mc z => ⟨mc, keepNs z.1, z.2⟩⟩
  have start0 : Env0 P w K mg (hidT s₁.heap H) callerA [] s₁ H := ⟨rfl, modul, fun b o e => of_hidT e, Nat.le_of_eq (hidT_size _ _), trivial, fun b hb => (List.not_mem_nil hb).elim, holds, .of_eq quiet⟩
  refine codeAny_mono ((F _ keepK (keepNs gl)).does callerA [] s₁ H _ [.ref a] [.ref a] _ _ room rfl start0 (binds s₁ (.ref a)) (.cons rfl .nil) (asked H only script)) ?_
  intro r s' post
  match r, post with
  | .error e, post => exact False.elim post
  | .ok .next, post => exact post.elim
  | .ok .brk, post => exact post.elim
  | .ok .cont, post => exact post.elim
  | .ok (.ret u), ⟨v, H', os, bare, un, held, rv, e⟩ =>
    cases (show v = V.bl true from e)
    cases (show u = Value.bool true from rv)
    refine ⟨rfl, OldK.of_keep fun b o g => ?_, os, bare⟩
    cases c : H b with
    | none => exact un.keep b o g c (fun z => (List.not_mem_nil z).elim) (fun z => (List.not_mem_nil z).elim)
    | some u =>
      obtain ⟨rfl, _, rfl⟩ := at_ c
      rw [Option.some.inj (g.symm.trans there)]
      exact (held b _ (un.frzs b ob _ c)).1
end
/-- the goal that is left of a law whose defs ask repr -/
theorem walk_ofG {l : PySem.W.OpenLaw} {n k : Nat} {q : Program} {loose : List Str} {XP : (Str → Option Value) → Heap → Prop} {YP : World → Heap → Prop} {d : DefRec} {K : Params → PySem.W.Frag} {sp : World → Sp} {x : Str}
    (most : l.most = some n) (n9 : n ≤ sizeLine) (nodf : d.params.defaults = []) (room : Room k callerA) (inK : ∀ (w : World) (h : Heap), YP w h → (K w.params).In h)
    (F : ∀ (w : World) (mg : Str → Option Value) (fa : Addr) (h : Heap), (K w.params).In h → h.Ns mainGlobals mg → mg d.name = some (.ref fa) →
      ∃ fd : FuncData, (∀ (s : Shared) (u : Value), BindsTo s fd ⟨[u], []⟩ [(x, u)]) ∧ ∀ base : Heap, (K w.params).In base → base.Ns mainGlobals mg → FnG l.prog w (K w.params) mg base k fa fd [x] (sp w))
    (asked : ∀ (w : World) (H : Hp) (a : Addr) (ns : List Int), ns.length ≤ n → Only H → SqL (K w.params) H a (ns.map V.int) → sp w [.ref a] H (fun v _ => v = .bl true) fun _ _ _ => False) :
    PySem.W.WalkO q loose XP YP l.row.toRowW d [] (fun f vs => PySem.call f vs) :=
  Att.attach_call most nodf fun w s₀ s₁ mg mb fa o pm cd doc a vs ns G Y ho hd hcd hmg hobj hints hlen hg => by
    obtain ⟨fd, b, f⟩ := F w mg fa _ (inK w _ Y) G.T.g hmg
    exact call_law (inK w _ Y) G.T.g G.T.b G.T.builtins G.T.nolimit hg hobj hints (Nat.le_trans hlen n9) room f b fun H only sc => asked w H a ns hlen only sc
end KR
/-! ### all(test for x in ..): the generator expression's own frame, its test read like a def's body -/
namespace KR
open PySem PySem.Spec PyProof.Rows L2
/-- the frame's scope: one name of its own, nothing captured -/
structure GnS (scope : Scope) (x : Str) : Prop where
  kind : scope.kind = .function
  co : scope.isCoroutine = false
  cell : ∀ y ∈ scope.names, y.2 ≠ .cell
  free : ∀ y ∈ scope.names, y.2 ≠ .free
  dot : scope.names.lookup (".0" : Str) = some NameKind.local
  loc : scope.names.lookup x = some .local
/-- the frame's environment, its around -/
abbrev gEnv (X : Cx) (scope : Scope) (C : Addr) (code : Value) : Env := genEnv scope [] C code builtinsNs X.env
abbrev gAr (X : Cx) (ge : Expr) (it : Addr) (env : Env) : Around := X.A.in1.in1.over (.compLoop ge 0 (.ref it) .none env) []
/-- the frame's context: it began at s, H; fp: what is walked -/
abbrev gCx (X : Cx) (ge : Expr) (it : Addr) (x : Str) (s : Shared) (H : Hp) (env : Env) (fp : List Addr) : Cx :=
  { prog := X.prog, w := X.w, K := X.K, mg := X.mg, base := X.base, A := gAr X ge it env, N := [x], s_0 := s, H_0 := H, env := env, outer := X.stack, stack := env :: X.stack, ex := fp, fn := fun _ => false, calm := true, pn := [], xe := fun _ _ => False }
section
variable {X : Cx} {pins : List (Addr × Obj)} {σ : L2.St} {H : Hp} {s : Shared}
theorem inv_gens {g' : Array GenState} (I : Inv X pins σ H s) (hg : AllBare g') : Inv X pins σ H { s with gens := g' } :=
  I.call (h' := s.heap) (g' := g') (t' := s.toks) (d' := s.drawn) (ch := []) Un.refl I.hok hg fun b z => absurd z List.not_mem_nil
theorem bare_set {a : Array GenState} {g : Nat} {x : GenState} (h : AllBare a) (hx : x.bare = true) : AllBare (a.setIfInBounds g x) := fun y hy => by
  rcases Array.mem_or_eq_of_mem_setIfInBounds hy with z | z
  · exact h y z
  · rw [z]
    exact hx
theorem inv_setGen {g : Nat} {x : GenState} (I : Inv X pins σ H s) (hx : x.bare = true) : Inv X pins σ H (s.setGen g x) := inv_gens I (bare_set I.bare hx)
theorem room_gen {k : Nat} (r : Room (k + 1) X.A) {elt : Expr} {cs : List Comprehension} {sc : Scope} {p : Pos} {it : Addr} {env : Env} : Room k (gAr X (.GeneratorExp elt cs sc p) it env) := by
  obtain ⟨h1, h2, h3⟩ := r
  refine ⟨h1, ?_, ?_⟩
  · show X.A.depth + 0 + 1 + 3 * k + 5 < recursionLimit
    omega
  · show X.A.units + 1 + 1 + 0 + 3 + 16 * k + 200 < cLine
    omega
theorem gen_ok {elt : Expr} {cs : List Comprehension} {sc : Scope} {gp : Pos} {it : Addr} {x : Str} {scope : Scope} {code : Value} {fp : List Addr} (I : Inv X pins σ H s) (S : GnS scope x) (hh : X.A.handled = none) (hfp : ∀ b ∈ fp, FpOk X pins H b ∧ b < s.heap.objs.size) :
    (gCx X (.GeneratorExp elt cs sc gp) it x s H (gEnv X scope s.heap.objs.size code) fp).Ok := by
  have kd : ∀ y k, scope.names.lookup y = some k → k ≠ .cell ∧ k ≠ .free := fun y k e => ⟨S.cell _ (PySem.mem_of_lookup e), S.free _ (PySem.mem_of_lookup e)⟩
  exact {
    mod := I.ok.mod, kind := S.kind, glob := I.ok.glob, blt := rfl, above := Nat.le_refl _
    inj := fun y z c e _ => (by cases e)
    has := fun y h => (by
      rcases h with h | h
      · exact absurd rfl (kd y _ h).1
      · exact absurd rfl (kd y _ h).2)
    cab := fun y c z _ => (by cases z)
    hd := fun _ => hh
    frames := (by
      show pushEnvs [gEnv X scope s.heap.objs.size code] (pushEnvs [] X.A.frames) = _
      rw [I.ok.frames] <;> rfl)
    stk := .inr ⟨rfl, rfl⟩
    exf := fun b hb => ⟨Nat.ne_of_lt (hfp b hb).2, fun y c e => (by cases e)⟩
    bs := I.bs, bsz := Nat.le_trans I.ok.bsz I.sz
    noex := fun b o e hb => (by
      obtain ⟨_, _, _, old | old, _⟩ := (hfp b hb).1
      · exact I.ok.noex b o e old
      · have z := Heap.lt_size e
        have z2 := I.ok.bsz
        exact Nat.lt_irrefl b (Nat.lt_of_lt_of_le z (Nat.le_trans z2 old)))
    exfs := fun b hb hf => (by
      obtain ⟨⟨_, n1, n2, _⟩, _⟩ := hfp b hb
      rcases List.mem_cons.mp (I.stkSub b hf) with e | e
      · exact n1 e
      · exact n2 e)
    funs := I.stack, frf := I.stkFree }
/-- the frame as it begins: its space at C, its generator behind it -/
theorem gen_inv {elt : Expr} {cs : List Comprehension} {sc : Scope} {gp : Pos} {it : Addr} {x : Str} {scope : Scope} {code : Value} {fp : List Addr} {h' : Heap} {G : Obj} {g' : Array GenState} {tk : Nat} {m : Str → Option Value} (I : Inv X pins σ H s) (S : GnS scope x) (hh : X.A.handled = none)
    (hfp : ∀ b ∈ fp, FpOk X pins H b ∧ b < s.heap.objs.size) (hn : h'.Ns s.heap.objs.size m) (hsz : h'.objs.size = s.heap.objs.size + 1) (kp : ∀ b o, s.heap.get? b = some o → h'.get? b = some o) (hg : AllBare g') (hG : ∀ v, G.data ≠ .cell v) (hF : G.isFreed = false) :
    Inv (gCx X (.GeneratorExp elt cs sc gp) it x s H (gEnv X scope s.heap.objs.size code) fp) [(h'.objs.size, G)] [none] H { s with heap := h'.push G, gens := g', toks := tk } := by
  have kp2 : ∀ b o, s.heap.get? b = some o → (h'.push G).get? b = some o := fun b o e => Heap.get?_push_of_some _ (kp b o e)
  have gt : s.heap.objs.size ≤ h'.objs.size := by omega
  exact {
    ok := gen_ok I S hh hfp, os := rfl, bare := hg, base := Un.kept kp2
    loc := ⟨m, hn.push _, fun i y v _ e _ => (by
      match i, e with
      | 0, e => cases e
      | j + 1, e => cases e)⟩
    cell := fun y c e => (by cases e)
    free := I.hok.fresh (Nat.le_refl _)
    freeC := fun y c e => (by cases e)
    pin := fun p hp => (by
      obtain rfl := List.mem_singleton.mp (show p ∈ [(h'.objs.size, G)] from hp)
      refine ⟨Heap.get?_push_size _ hF, I.hok.fresh gt, fun z => ?_, fun z => ?_, hG⟩
      · have z2 : h'.objs.size = s.heap.objs.size := z
        omega
      · rcases List.mem_cons.mp (I.stkSub _ z) with e | e
        · have z2 := I.lt
          rw [← e] at z2
          have z3 : h'.objs.size < s.heap.objs.size := z2
          omega
        · exact I.nofs gt e)
    hok := I.hok.kept kp2, len := rfl }
end
/-- what is so between two steps of the generator, i things taken -/
def GSt (Y : Cx) (pn : List (Addr × Obj)) (tn : Nat → Heap → Prop) (fp : List Addr) (W : Nat → Hp → Prop) (i : Nat) (s : Shared) : Prop :=
  ∃ H', Inv Y pn [none] H' s ∧ tn i s.heap ∧ (∀ b ∈ fp, H' b = none) ∧ W i H'
/-- how it ends, how it hands out -/
def gFin (Y : Cx) (pn : List (Addr × Obj)) (Q : VK) (b : Bool) (s : Shared) : Prop := ∃ H', Inv Y pn [none] H' s ∧ Q (.bl b) H'
abbrev gEnd (Y : Cx) (pn : List (Addr × Obj)) (Q : VK) : GenEnd := fun _ _ r s1 => r = .ok .next ∧ gFin Y pn Q true s1
def gPro (Y : Cx) (pn : List (Addr × Obj)) (tn : Nat → Heap → Prop) (fp : List Addr) (W : Nat → Hp → Prop) (Q : VK) : Protocol := fun _ _ v s kap =>
  ∃ b : Bool, v = .bool b ∧ (b = true → ∃ i, GSt Y pn tn fp W i s ∧ ∀ s', GSt Y pn tn fp W i s' → kap (.send .none) s') ∧ (b = false → gFin Y pn Q false s)
/-- one turn's reading -/
def GTurn (J : It) (te : TE) (n : Nat) (W : Nat → Hp → Prop) (Q : VK) : Prop := ∀ i H2, W i H2 →
  (J.stop i H2 ∧ Q (.bl true) H2) ∨ (J.go i H2 ∧ i < n ∧ ∀ x H3, J.yld i H2 x H3 → te [some x] H3 fun u H4 => ∃ b, u = .bl b ∧ if b = true then W (i + 1) H4 else Q (.bl false) H4)
section
variable {X : Cx} {elt iter : Expr} {x : Str} {px gp : Pos} {sc : Scope} {it C : Addr} {s₁ : Shared} {H₁ : Hp} {code : Value} {fp : List Addr} {pn : List (Addr × Obj)} {tn : Nat → Heap → Prop} {J : It} {te : TE} {n : Nat} {W : Nat → Hp → Prop} {Q : VK}
theorem gen_seg {Y : Cx} {env : Env} (hY : Y = gCx X (.GeneratorExp elt [⟨.Name x px, iter, [], 0⟩] sc gp) it x s₁ H₁ env fp) (hco : env.scope.isCoroutine = false) (T : Turn X.prog X.w X.K (.Name x px) J fp it tn)
    (pg : PG Y (.Name x px) (gName 0)) (pe : PE Y elt te) (turn : GTurn J te n W Q) (hpn : ∀ b ∈ fp, ∀ p ∈ pn, p.1 ≠ b) :
    ∀ (m i : Nat) (s s₀ : Shared), n - i = m → GSt Y pn tn fp W i s → Seg (model X.prog X.w) X.A.in1.in1 (gEnd Y pn Q) (gPro Y pn tn fp W Q) m s₀
      (.compLoop (.GeneratorExp elt [⟨.Name x px, iter, [], 0⟩] sc gp) 0 (.ref it) .none env) ((model X.prog X.w).den (.compLoop (.GeneratorExp elt [⟨.Name x px, iter, [], 0⟩] sc gp) 0 (.ref it) .none env)) [] s := by
  have hA : Y.A = X.A.in1.in1.over (.compLoop (.GeneratorExp elt [⟨.Name x px, iter, [], 0⟩] sc gp) 0 (.ref it) .none env) [] := by rw [hY]
  have hP : Y.prog = X.prog := by rw [hY]
  have hW : Y.w = X.w := by rw [hY]
  have hK : Y.K = X.K := by rw [hY]
  have hC : Y.calm = true := by rw [hY]
  have hE : Y.env = env := by rw [hY]
  have hX : Y.ex = fp := by rw [hY]
  have hN : Y.pn = [] := by rw [hY]
  have hxe : Y.xe = fun _ _ => False := by rw [hY]
  have stat : ∀ {σ' : L2.St} {H' : Hp} {s' : Shared}, Inv Y pn σ' H' s' → (∀ b ∈ fp, H' b = none) → ∀ b ∈ fp, FpOk Y pn H' b := fun {σ' H' s'} I' hn b hb => by
    have hb2 : b ∈ Y.ex := by rw [hX]; exact hb
    refine ⟨hn b hb, (I'.ok.exf b hb2).1, I'.ok.exfs b hb2, .inl hb2, fun y c e => (I'.ok.exf b hb2).2 y c e, fun p hp => ?_⟩
    rw [hN] at hp
    exact hpn b hb p hp
  have runG := fun pins s σ H v u Q => pg.run pins s σ H v u Q
  have runE := fun pins s σ H Q => pe.run pins s σ H Q
  rw [hA, hP, hW, hE, hxe] at runG runE
  intro m
  induction m with
  | zero =>
    rintro i s s₀ hm ⟨H, I, st, nf, w⟩
    show Seg _ _ _ _ _ s₀ _ ((compTurn _ 0 (.ref it) .none env).onRaise (leaving env)) [] s
    rw [compTurn_gen, Sem.onRaise_eq_wrap]
    refine seg_bind_wrap (wpAny_standAt ?_)
    rcases turn i H w with ⟨stop, q⟩ | ⟨_, lt, _⟩
    · have td := T.done Y hP hW hK hC i pn s _ H (fun _ _ => False) I (stat I nf) st stop
      rw [hA] at td
      refine seg_bind_wrap (thnF td fun r s2 ⟨e, I2⟩ => ?_)
      rw [e]
      exact seg_end (.ok .next) ⟨rfl, H, I2, q⟩
    · exact absurd lt (by omega)
  | succ m ih =>
    rintro i s s₀ hm ⟨H, I, st, nf, w⟩
    show Seg _ _ _ _ _ s₀ _ ((compTurn _ 0 (.ref it) .none env).onRaise (leaving env)) [] s
    rw [compTurn_gen, Sem.onRaise_eq_wrap]
    refine seg_bind_wrap (wpAny_standAt ?_)
    rcases turn i H w with ⟨stop, q⟩ | ⟨go, lt, step⟩
    · have td := T.done Y hP hW hK hC i pn s _ H (fun _ _ => False) I (stat I nf) st stop
      rw [hA] at td
      refine seg_bind_wrap (thnF td fun r s2 ⟨e, I2⟩ => ?_)
      rw [e]
      exact seg_end (.ok .next) ⟨rfl, H, I2, q⟩
    · have ti := T.item Y hP hW hK hC i pn s _ H (fun _ _ => False) I (stat I nf) st go
      rw [hA] at ti
      refine seg_bind_wrap (thnF ti fun r s2 ⟨u, e, h2⟩ => ?_)
      rw [e]
      refine seg_bind_wrap (thnF h2 fun _ s3 ⟨y, H3, I3, r3, y3, st3, n3⟩ => ?_)
      have I3' := I3.pinned (stat I3 n3) (T.obj _ _ st3)
      refine seg_bind_wrap (thnF (runG _ s3 _ H3 y u _ I3' r3 (show gName 0 y [none] H3 (fun σ' H' => σ' = [some y] ∧ H' = H3) from ⟨rfl, rfl⟩)) fun _ s4 ⟨σ4, H4, I4, e4, e5⟩ => ?_)
      subst e4 e5
      refine seg_bind_wrap (wpAny_tests_nil ?_)
      simp only [if_true]
      have yo : ∀ v, yieldOut env v = yieldValue v := fun v => by
        unfold yieldOut
        rw [hco] <;> rfl
      simp only [yo]
      rw [Sem.bind_eq_wrap', Sem.bind_eq_wrap', Sem.wrap_wrap, Sem.wrap_wrap]
      refine seg_wrap (thnF (runE _ s4 _ _ _ I4 (step y _ y3)) fun v s5 ⟨yv, H5, I5, r5, b, e5, q5⟩ => ?_)
      subst e5
      obtain rfl : v = Value.bool b := r5
      have pin' : ∀ b ∈ fp, ∀ o, s3.heap.get? b = some o → s5.heap.get? b = some o ∧ H5 b = none := fun b hb o e =>
        let z := I5.pin (b, o) (List.mem_append_right _ (List.mem_append_right _ (mem_pinsAt hb e)))
        ⟨z.1, z.2.1⟩
      have I6 : Inv Y pn [none] H5 s5 := I5.unpinned.weak rfl fun j v e => by
        match j, e with
        | 0, e => cases e
        | j + 1, e => cases e
      have done : W (i + 1) H5 → GSt Y pn tn fp W (i + 1) s5 := fun w5 => ⟨H5, I6, T.keep _ _ _ st3 fun b hb o e => (pin' b hb o e).1, fun b hb => (by
        obtain ⟨o, e, _⟩ := T.obj _ _ st3 b hb
        exact (pin' b hb o e).2), w5⟩
      refine seg_at (seg_yield rfl rfl rfl ⟨b, rfl, fun hb => ?_, fun hb => ?_⟩)
      · rw [if_pos hb] at q5
        exact ⟨i + 1, done q5, fun s' hj => seg_again rfl (ih (i + 1) s' s' (by omega) hj)⟩
      · rw [if_neg (by rw [hb]; exact Bool.false_ne_true)] at q5
        exact ⟨H5, I6, q5⟩
/-- the generator at a, its number g: what it does next -/
def GAt (M : Model) (A : Around) (Y : Cx) (pn : List (Addr × Obj)) (tn : Nat → Heap → Prop) (fp : List Addr) (W : Nat → Hp → Prop) (Q : VK) (g m : Nat) (s : Shared) : Prop :=
  ∃ i gs, GSt Y pn tn fp W i s ∧ s.gens[g]? = some gs ∧ ∀ s', GSt Y pn tn fp W i s' → gs.Goes M A (gEnd Y pn Q) (gPro Y pn tn fp W Q) m (.send .none) s'
theorem gst_set {Y : Cx} {i g : Nat} {s : Shared} {y : GenState} (h : GSt Y pn tn fp W i s) (hy : y.bare = true) : GSt Y pn tn fp W i (s.setGen g y) := by
  obtain ⟨H', I, r⟩ := h
  exact ⟨H', inv_setGen I hy, r⟩
theorem fin_set {Y : Cx} {g : Nat} {s : Shared} {y : GenState} {b : Bool} (h : gFin Y pn Q b s) (hy : y.bare = true) : gFin Y pn Q b (s.setGen g y) := by
  obtain ⟨H', I, r⟩ := h
  exact ⟨H', inv_setGen I hy, r⟩
theorem fin_kept {Y : Cx} {s : Shared} {b : Bool} {h' : Heap} (h : gFin Y pn Q b s) (k : ∀ b o, s.heap.get? b = some o → h'.get? b = some o) : gFin Y pn Q b { s with heap := h' } := by
  obtain ⟨H', I, r⟩ := h
  exact ⟨H', I.kept (t' := s.toks) k, r⟩
theorem set_at {s : Shared} {g : Nat} {y : GenState} (h : g + 1 ≤ (s.setGen g y).gens.size) : (s.setGen g y).gens[g]? = some y := by
  have z : g < s.gens.size := by
    have e : (s.setGen g y).gens.size = s.gens.size := Array.size_setIfInBounds
    omega
  show (s.gens.setIfInBounds g y)[g]? = some y
  rw [Array.getElem?_setIfInBounds, if_pos rfl, if_pos z]
theorem all_run {Y : Cx} {a : Addr} {g : Nat} {G : Obj} {R : Result → Shared → Prop} (hp : (a, G) ∈ pn) (hG : ∀ h : Heap, h.get? a = some G → h.IsGen a g) (hh : X.A.handled = none) (hd : X.A.depth + 2 < recursionLimit)
    (hR : ∀ b s', gFin Y pn Q b s' → R (.ok (.ret (.bool b))) s') :
    ∀ (m : Nat) (s : Shared), GAt (model X.prog X.w) X.A.in1.in1 Y pn tn fp W Q g m s → codeAny (model X.prog X.w) X.A (.builtin "all.loop" ⟨[.ref a], []⟩) R s := by
  have turn : ∀ (m : Nat) (s : Shared), GAt (model X.prog X.w) X.A.in1.in1 Y pn tn fp W Q g m s →
      (∀ s', (∃ k, m = k + 1 ∧ GAt (model X.prog X.w) X.A.in1.in1 Y pn tn fp W Q g k s') → codeAny (model X.prog X.w) X.A (.builtin "all.loop" ⟨[.ref a], []⟩) R s') → codeAny (model X.prog X.w) X.A (.builtin "all.loop" ⟨[.ref a], []⟩) R s := by
    rintro m s ⟨i, gs, st, hgs, goes⟩ next
    obtain ⟨H, I, _⟩ := id st
    have gen : s.heap.IsGen a g := hG _ (I.pin (a, G) (List.mem_append_right _ hp)).1
    have hgl : g + 1 ≤ s.gens.size := (Array.getElem?_eq_some_iff.mp hgs).1
    refine codeAny_builtin (F.entry_all_loop) ?_
    rw [Around.under_plainId (F.plain_all_loop) _]
    show wpAny (model X.prog X.w) X.A.in1 (pyNext (.ref a) >>= _) _ _ s
    refine wpAny_bind (GenW.wpAny_gsz (n := g + 1) hgl (wpAny_pyNext_genexpQ (n := m) (P := fun _ _ s1 => gFin Y pn Q true s1) (Y := gPro Y pn tn fp W Q) hh I.nolimit (by show X.A.depth < recursionLimit; omega) gen hgs (goes _ (gst_set st rfl)) (fun v s1 gs' hb hv => ?_) (fun s1 hf h' hk => ?_)))
    · intro hgl2
      obtain ⟨b, rfl, yes, no⟩ := hv
      refine wpAny_bind (wpAny_holding (wpAny_truthy_bool ?_))
      refine wpAny_bind (wpAny_letGo ?_)
      cases b with
      | true =>
        obtain ⟨i2, st2, kap⟩ := yes rfl
        simp only [if_true]
        cases m with
        | zero => exact (kap s1 st2).elim
        | succ k => exact wpAny_pure ⟨plainId_quiet (F.plain_all_loop) _, next _ ⟨k, rfl, i2, gs', gst_set st2 hb, set_at hgl2, fun s' h => kap s' h⟩⟩
      | false =>
        simp only [Bool.false_eq_true, if_false]
        exact wpAny_bind (wpAny_rule (wpAny_pure (hR false _ (fin_set (no rfl) hb))))
    · intro _
      refine wpAny_bind (wpAny_rule (wpAny_pure ?_))
      exact hR true _ (fin_kept (fin_set hf rfl) hk)
  intro m
  induction m with
  | zero => exact fun s h => turn 0 s h fun s' ⟨k, e, _⟩ => (by cases e)
  | succ m ih => exact fun s h => turn (m + 1) s h fun s' ⟨k, e, z⟩ => ih s' (by cases e; exact z)
end
/-- .. in the def: the table of the def's code may have grown ahead of it -/
def tAllG (P : Addr) (wi : TI) (te : TE) : TE := fun σ H Q => wi σ H fun J H1 => GxR.TabG H1 P ∧ ∃ (n : Nat) (W : Nat → Hp → Prop), (∀ H2, GxR.Tabbed P H1 H2 → W 0 H2) ∧ GTurn J te n W Q
theorem gen_den {X : Cx} {elt iter : Expr} {x : Str} {px gp : Pos} {sc : Scope} {it : Addr} {env : Env} {fp : List Addr} {pn : List (Addr × Obj)} {tn : Nat → Heap → Prop} {W : Nat → Hp → Prop} {Q : VK} {Y : Cx} {J : It} {n : Nat} (T : Turn X.prog X.w X.K (.Name x px) J fp it tn)
    (loop : ∀ (s s₀ : Shared), GSt Y pn tn fp W 0 s → Seg (model X.prog X.w) X.A.in1.in1 (gEnd Y pn Q) (gPro Y pn tn fp W Q) n s₀ (.compLoop (.GeneratorExp elt [⟨.Name x px, iter, [], 0⟩] sc gp) 0 (.ref it) .none env)
      ((model X.prog X.w).den (.compLoop (.GeneratorExp elt [⟨.Name x px, iter, [], 0⟩] sc gp) 0 (.ref it) .none env)) [] s) (s s₀ : Shared) (st : GSt Y pn tn fp W 0 s) :
    Seg (model X.prog X.w) X.A.in1.in1 (gEnd Y pn Q) (gPro Y pn tn fp W Q) n s₀ (.compStart (.GeneratorExp elt [⟨.Name x px, iter, [], 0⟩] sc gp) 0 (.ref it) .none env)
      ((model X.prog X.w).den (.compStart (.GeneratorExp elt [⟨.Name x px, iter, [], 0⟩] sc gp) 0 (.ref it) .none env)) [] s := by
  have go := loop s s₀ st
  obtain ⟨H', I, st0, _⟩ := id st
  show Seg _ _ _ _ _ s₀ _ ((compStart _ 0 (.ref it) .none env).onRaise (leaving env)) [] s
  unfold compStart
  rw [Sem.onRaise_eq_wrap]
  show Seg _ _ _ _ _ s₀ _ ((ask >>= _).wrap _ _ _ _) [] s
  refine seg_bind_wrap (wpAny_askSetting ?_)
  split
  · exact seg_again rfl go
  · refine seg_bind_wrap (wpAny_rule ?_)
    show Seg _ _ _ _ _ s₀ _ ((standAt iter.pos >>= _).wrap _ _ _ _) [] s
    refine seg_bind_wrap (wpAny_standAt (seg_bind_wrap ?_))
    exact T.self _ 0 s _ _ st0 (seg_again rfl go)
theorem no_clo {cells : List (Str × Addr)} : ∀ (l : List (Str × NameKind)), (∀ y ∈ l, y.2 ≠ .free) → cloFrom cells l [] = []
  | [], _ => rfl
  | (n, k) :: r, h => by
    have z := no_clo (cells := cells) r fun y hy => h y (List.mem_cons_of_mem _ hy)
    have hk : k ≠ .free := h (n, k) List.mem_cons_self
    unfold cloFrom
    cases k <;> first | exact z | exact absurd rfl hk
theorem pe_allG {X : Cx} {c P : Addr} {elt iter : Expr} {x : Str} {px p pos gp : Pos} {scope : Scope} {wi : TI} {te : TE} {k : Nat}
    (hr : Room k X.A) (hg : Gl X "all") (hm : X.mg "all" = none) (hb : bootBuiltins "all" = some (.builtin "all")) (TB : GxR.TabB X.base X.mg c P) (hcode : X.env.code = .ref c) (S : GnS scope x) (hi : PI X (.Name x px) iter wi)
    (hel : ∀ (it C : Addr) (s : Shared) (H : Hp) (code : Value) (fp : List Addr), PE (gCx X (.GeneratorExp elt [⟨.Name x px, iter, [], 0⟩] scope gp) it x s H (gEnv X scope C code) fp) elt te)
    (hs : ∀ v, genFold iter X.env v = pure v)
    (he : starEach [.GeneratorExp elt [⟨.Name x px, iter, [], 0⟩] scope gp] X.env = (false, eval (.GeneratorExp elt [⟨.Name x px, iter, [], 0⟩] scope gp) X.env) :: starEach [] X.env := by rfl) :
    PE X (.Call (.Name "all" p) [.GeneratorExp elt [⟨.Name x px, iter, [], 0⟩] scope gp] [] pos) (tAllG P wi te) := by
  have dep := hr.dp
  refine ⟨fun pins s σ H Q I h => ?_⟩
  refine wpAny_Call_Name_kw (ld_blt I hg hm hb ?_)
  refine PyProof.Rows.callWith_builtin1 ?_ he (by rfl)
  rw [he]
  refine Calls.spliced_cons (wpAny_GeneratorExp_make (cl := []) S.co ?_ S.cell S.dot S.kind (by omega) ?_ hs)
  · rw [closure_ok (fun y hy e => absurd e (S.free y hy)), no_clo _ S.free]
  refine thn (hi.run pins s σ H _ I h) fun xv s1 hx => thn hx fun itv s2 ⟨it, fp, tn, J, H2, e, I2, T, st2, f2, TG, n, W, w0, turn⟩ => ⟨I2.nolimit, ?_⟩
  subst e
  obtain ⟨ps, hP, ht⟩ := TG
  have hPs : s2.heap.get? P = some { cls := .none, data := .fields ps } := I2.hok P _ hP
  have cd : PySem.W.CodeHd s2.heap c P := TB.code.keeps I2.bk
  have fpP : ∀ b ∈ fp, b ≠ P := fun b hb z => by
    have q := (f2 b hb).1
    rw [z, hP] at q
    cases q
  have cont : ∀ (code : Value) (h3 : Heap) (tk : Nat) (ps' : Array Value), Heap.ExtBut P s2.heap h3 → s2.heap.objs.size ≤ h3.objs.size → h3.get? P = some { cls := .none, data := .fields ps' } → (∃ more, ps' = ps ++ more) → TriplesOk ps'.toList →
      wpAny (model X.prog X.w) X.A (builtinsFor X.env.globals X.env.builtins) (fun bi s₄ => ∀ h', h'.Ns s₄.heap.objs.size (fun y => if y = ".0" then some (.ref it) else none) →
        Heap.SameBut s₄.heap.objs.size (s₄.heap.push { cls := .type "frame", data := .dict #[] }) h' → wpAny (model X.prog X.w) X.A (spliced (backTo pos (starEach [] X.env))) (fun us s' => wpAny (model X.prog X.w) X.A (call (.builtin "all") (.ref h'.objs.size :: us)) (EP X pins σ Q) X.xe s') X.xe
          { s₄ with gens := s₄.gens.push (.fresh (.compStart (.GeneratorExp elt [⟨.Name x px, iter, [], 0⟩] scope gp) 0 (.ref it) .none (genEnv scope [] s₄.heap.objs.size code bi X.env))), toks := s₄.toks + 1 + 1 + 1,
                    heap := h'.push { cls := .type "generator", data := .fields #[.int s₄.gens.size 0, .str "<genexpr>" (s₄.toks + 1), .str (X.env.qual ++ "<genexpr>") (s₄.toks + 1 + 1)] } }) X.xe { s2 with heap := h3, toks := tk } := by
    intro code h3 tk ps' hx hsz hP3 hmore ht3
    obtain ⟨bm, ob, e1, e2, e3, e4, e5, e6, e7, e8⟩ := TB.bm
    have keep3 : ∀ b u, b ≠ P → s2.heap.get? b = some u → h3.get? b = some u := fun b u hb e => hx b u hb e
    refine wpAny_builtinsFor (m := X.mg) (by rw [I2.ok.glob]; exact (I2.mod.glob.keeps I2.bk).extBut hx TB.gP) e1 e2 (keep3 _ _ e4 (I2.bk _ _ e5)) e6 e7 e8 ?_
    obtain ⟨more, em⟩ := hmore
    have I4 := GxR.inv_tab (more := more) (h' := h3) (g' := s2.gens) (d' := s2.drawn) (t' := tk) I2 hP (fun b u hb e => keep3 b u hb e) (by rw [← em]; exact hP3) I2.bare
    generalize hs4 : ({ s2 with heap := h3, toks := tk } : Shared) = s4 at I4 ⊢
    have h4 : s4.heap = h3 := by rw [← hs4]
    have tabbed : GxR.Tabbed P H2 (upd H2 P (.tbl (ps ++ more))) := ⟨⟨_, upd_same, by rw [← em]; exact ht3⟩, fun b hb => upd_ne hb⟩
    generalize upd H2 P (.tbl (ps ++ more)) = H4 at I4 tabbed
    have lt4 : ∀ b ∈ fp, b < s4.heap.objs.size := fun b hb => by
      obtain ⟨o, e, _⟩ := T.obj _ _ st2 b hb
      have z := Heap.lt_size e
      rw [h4]
      exact Nat.lt_of_lt_of_le z hsz
    have f4 : ∀ b ∈ fp, FpOk X pins H4 b ∧ b < s4.heap.objs.size := fun b hb => ⟨⟨(tabbed.2 b (fpP b hb)).trans (f2 b hb).1, (f2 b hb).2⟩, lt4 b hb⟩
    intro h' hn' hs'
    have sz' : h'.objs.size = s4.heap.objs.size + 1 := by rw [hs'.1, Heap.size_push]
    have kp : ∀ b o, s4.heap.get? b = some o → h'.get? b = some o := fun b o e => hs'.extBut b o (Nat.ne_of_lt (Heap.lt_size e)) (Heap.get?_push_of_some _ e)
    generalize hG : ({ cls := .type "generator", data := .fields #[.int s4.gens.size 0, .str "<genexpr>" (s4.toks + 1), .str (X.env.qual ++ "<genexpr>") (s4.toks + 1 + 1)] } : Obj) = G
    have IG := gen_inv (elt := elt) (cs := [⟨.Name x px, iter, [], 0⟩]) (sc := scope) (gp := gp) (it := it) (code := code) (G := G) (g' := s4.gens.push (.fresh (.compStart (.GeneratorExp elt [⟨.Name x px, iter, [], 0⟩] scope gp) 0 (.ref it) .none (gEnv X scope s4.heap.objs.size code)))) (tk := s4.toks + 1 + 1 + 1)
      I4 S hr.hd f4 hn' sz' kp (I4.bare.push rfl) (fun v z => by rw [← hG] at z; cases z) (by rw [← hG] <;> rfl)
    have st5 : tn 0 (h'.push G) := T.keep _ _ _ st2 fun b hb o e => Heap.get?_push_of_some _ (kp b o (by rw [h4]; exact keep3 b o (fpP b hb) e))
    refine Calls.spliced_nil ?_
    have isG : ∀ hp : Heap, hp.get? h'.objs.size = some G → hp.IsGen h'.objs.size s4.gens.size := fun hp e => ⟨G, _, _, e, by rw [← hG], by rw [← hG], by rw [← hG]⟩
    have hpn : ∀ b ∈ fp, ∀ p ∈ [(h'.objs.size, G)], p.1 ≠ b := fun b hb p hp z => by
      obtain rfl := List.mem_singleton.mp hp
      have q : b < s4.heap.objs.size := lt4 b hb
      have z2 : h'.objs.size = b := z
      rw [← z2, sz'] at q
      exact Nat.lt_irrefl _ (Nat.lt_of_succ_lt q)
    have loop := gen_seg (elt := elt) (iter := iter) (px := px) (gp := gp) (sc := scope) (Q := Q) (tn := tn) (n := n) rfl S.co T (pg_name (X := gCx X (.GeneratorExp elt [⟨.Name x px, iter, [], 0⟩] scope gp) it x s4 H4 (gEnv X scope s4.heap.objs.size code) fp) (List.nodup_cons.mpr ⟨List.not_mem_nil, List.nodup_nil⟩) rfl (.inl S.loc) (.inr S.loc))
      (hel it s4.heap.objs.size s4 H4 code fp) turn hpn
    refine call_function_tree (F.kind_all) (F.plain_all) (F.entry_all) (F.args_all1 _) ?_
    unfold Builtin.«all»
    refine wpAny_bind (m := oneArg "all" _) (wpAny_pure ?_)
    refine wpAny_bind (wpAny_pyIter_gen (isG _ (IG.pin (h'.objs.size, G) (List.mem_singleton.mpr rfl)).1) ?_)
    refine wpAny_pure ⟨plainId_quiet (F.plain_all_loop) _, all_run (pn := [(h'.objs.size, G)]) (tn := tn) (fp := fp) (W := W) (Q := Q) (List.mem_singleton.mpr rfl) isG hr.hd (by omega) (fun b s' hf => ?_) n _ ⟨0, _, ⟨H4, IG, st5, fun b hb => (f4 b hb).1.1, w0 H4 tabbed⟩, Array.getElem?_push_size .., fun s' hst => ⟨rfl, gen_den T (fun s s₀ q => loop n 0 s s₀ (Nat.sub_zero n) q) s' s' hst⟩⟩⟩
    obtain ⟨H', IY, q⟩ := hf
    have J := I4.call' (ch := fp) IY.os IY.base IY.hok IY.bare fun b hb => ⟨(f4 b hb).1.2.2.2.1, (f4 b hb).1.2.1, (f4 b hb).1.2.2.2.2.1, (f4 b hb).1.2.2.2.2.2⟩
    exact ⟨.bl b, H', J, rfl, q⟩
  cases hf : codeAmong gp ps.toList with
  | none =>
    refine wpAny_genexprCodeX hcode (cd.code hPs ht) (cd.tab hPs) hf fun c' h' tk hx hge hlt hco' _ htab' _ => ?_
    obtain ⟨o1, vs, f1, tf, fl, tg, inF, tx, tt, op, _, _, _, _, _, _, _, _, _, htr, _⟩ := hco'
    exact cont _ h' tk _ hx (Nat.le_trans hge (Nat.le_of_lt hlt)) htab'.2 ⟨_, rfl⟩ htr
  | some cv =>
    refine wpAny_genexprCode_hit hcode (cd.code hPs ht) hf ?_
    exact cont cv s2.heap s2.toks ps (Heap.ExtBut.refl _ _) (Nat.le_refl _) hPs ⟨#[], by simp⟩ ht
end KR
/-! ### defs whose code has a table (a generator expression stands in them): what is kept around their calls, and the law's end with such tables -/
namespace KR
open PySem PySem.Spec PyProof.Rows L2
/-- what was tracked is as it was; tables may have grown -/
structure Sm (H H' : Hp) : Prop where
  keep : ∀ b o, H b = some o → (∀ q, o ≠ .tbl q) → H' b = some o
  tab : ∀ b, GxR.TabG H b → GxR.TabG H' b
theorem tab_at {H : Hp} {b : Addr} (h : GxR.TabG H b) : ∃ q, H b = some (.tbl q) := h.elim fun q z => ⟨q, z.1⟩
theorem Sm.refl {H : Hp} : Sm H H := ⟨fun _ _ h _ => h, fun _ h => h⟩
theorem Sm.trans {H H1 H2 : Hp} (a : Sm H H1) (b : Sm H1 H2) : Sm H H2 := ⟨fun c o h n => b.keep c o (a.keep c o h n) n, fun c h => b.tab c (a.tab c h)⟩
theorem Sm.of {H H1 : Hp} (a : Same H H1) : Sm H H1 := ⟨fun c o h _ => a c o h, fun c ⟨q, e, t⟩ => ⟨q, a _ _ e, t⟩⟩
theorem Sm.tabbed {H H1 : Hp} {P : Addr} (a : GxR.Tabbed P H H1) (h : GxR.TabG H P) : Sm H H1 := by
  obtain ⟨q, e, _⟩ := h
  refine ⟨fun c o h n => ?_, fun c ⟨q2, e2, t2⟩ => ?_⟩
  · have ne : c ≠ P := fun z => by
      rw [z, e] at h
      exact n q (Option.some.inj h).symm
    rw [a.2 c ne]
    exact h
  · by_cases z : c = P
    · rw [z]
      exact a.1
    · exact ⟨q2, (a.2 c z).trans e2, t2⟩
theorem Sm.tup {K : PySem.W.Frag} {H H' : Hp} {a : Addr} {xs : List V} (e : Sm H H') (h : SqT K H a xs) : SqT K H' a xs := by
  rcases h with (h | ⟨o, h⟩) | h
  · exact .inl (.inl (e.keep _ _ h nofun))
  · exact .inl (.inr ⟨o, e.keep _ _ h nofun⟩)
  · exact .inr h
theorem Sm.seq {K : PySem.W.Frag} {H H' : Hp} {a : Addr} {xs : List V} (e : Sm H H') (h : SqL K H a xs) : SqL K H' a xs := by
  rcases h with (h | ⟨o, h⟩) | h
  · exact .inl (.inl (e.keep _ _ h nofun))
  · exact .inl (.inr ⟨o, e.keep _ _ h nofun⟩)
  · exact .inr h
theorem Sm.lst {H H' : Hp} {a : Addr} {xs : List V} (e : Sm H H') (h : H a = some (.lst xs)) : H' a = some (.lst xs) := e.keep _ _ h nofun
theorem BoxAt.sm {H H' : Hp} {p : Addr} {n : Nat} (h : BoxAt H p n) (s : Sm H H') : BoxAt H' p n := by
  obtain ⟨a, b, c, h1, h2⟩ := h
  exact ⟨a, b, c, s.lst h1, h2⟩
/-- .. but the box p -/
structure Fs (p : Addr) (H H' : Hp) : Prop where
  keep : ∀ b o, b ≠ p → H b = some o → (∀ q, o ≠ .tbl q) → H' b = some o
  tab : ∀ b, b ≠ p → GxR.TabG H b → GxR.TabG H' b
theorem Fs.refl {p : Addr} {H : Hp} : Fs p H H := ⟨fun _ _ _ h _ => h, fun _ _ h => h⟩
theorem Fs.trans {p : Addr} {H H1 H2 : Hp} (a : Fs p H H1) (b : Fs p H1 H2) : Fs p H H2 := ⟨fun c o e h n => b.keep c o e (a.keep c o e h n) n, fun c e h => b.tab c e (a.tab c e h)⟩
theorem Fs.of {p : Addr} {H H1 : Hp} (a : Fr p H H1) : Fs p H H1 := ⟨fun c o e h _ => a c o e h, fun c e ⟨q, g, t⟩ => ⟨q, a _ _ e g, t⟩⟩
theorem Fs.sm {p : Addr} {H H1 : Hp} (a : Sm H H1) : Fs p H H1 := ⟨fun c o _ h n => a.keep c o h n, fun c _ h => a.tab c h⟩
/-- so many tables are there -/
def Tbs (Ps : List Addr) (H : Hp) : Prop := ∀ P ∈ Ps, GxR.TabG H P
theorem Tbs.sm {Ps : List Addr} {H H' : Hp} (h : Tbs Ps H) (s : Sm H H') : Tbs Ps H' := fun P hP => s.tab P (h P hP)
theorem Tbs.fs {Ps : List Addr} {p : Addr} {H H' : Hp} {xs : List V} (h : Tbs Ps H) (hp : H p = some (.lst xs)) (s : Fs p H H') : Tbs Ps H' := fun P hP => s.tab P (fun z => by
  obtain ⟨q, e⟩ := tab_at (h P hP)
  rw [z, hp] at e
  cases e) (h P hP)
theorem box_lst {H : Hp} {p : Addr} {n : Nat} (h : BoxAt H p n) : ∃ xs, H p = some (.lst xs) := by
  obtain ⟨a, b, c, h1, _⟩ := h
  exact ⟨_, h1⟩
theorem Tbs.fr {Ps : List Addr} {p : Addr} {n : Nat} {H H' : Hp} (h : Tbs Ps H) (B : BoxAt H p n) (f : Fr p H H') : Tbs Ps H' := (box_lst B).elim fun _ e => h.fs e (.of f)
theorem Tbs.same {Ps : List Addr} {H H' : Hp} (h : Tbs Ps H) (s : Same H H') : Tbs Ps H' := h.sm (.of s)
/-- what is written into a list of the def's own touches no table -/
theorem Tbs.put {Ps : List Addr} {H : Hp} {D : Addr} {xs ys : List V} (h : Tbs Ps H) (hd : H D = some (.lst xs)) : Tbs Ps (upd H D (.lst ys)) := h.fs hd (.of fr_updL)
where fr_updL : Fr D H (upd H D (.lst ys)) := fun b o n e => by rw [upd_ne n]; exact e
theorem Sm.put {H0 H : Hp} {D : Addr} {o : HO} (s : Sm H0 H) (h : H0 D = none) : Sm H0 (upd H D o) :=
  ⟨fun b u e n => by rw [upd_ne (ne_of_none e h)]; exact s.keep b u e n, fun b ⟨q, e, t⟩ => by
    obtain ⟨q2, e2, t2⟩ := s.tab b ⟨q, e, t⟩
    exact ⟨q2, by rw [upd_ne (ne_of_none e h)]; exact e2, t2⟩⟩
/-- a def of the text whose code object is known -/
structure FunC (K : PySem.W.Frag) (x qual : Str) (st : Stmt) (f : Addr) (fd : FuncData) (c : Addr) : Prop where
  ex : ∃ (oc : Value) (od : Option Addr) (kV doc pm : Value) (an : Option Addr) (ct : Value) (osl : Array (Option Value)),
    fd = PySem.W.fnOf x qual (defArgs st) (defBody st) (defScope st) .none kV doc pm an (.ref c) ct ∧ K.lookup f = some ⟨oc, od, .func fd, osl⟩ ∧ PySem.W.codeIn K (.ref c) qual = true
theorem funC_mk {K : PySem.W.Frag} {x qual : Str} {st : Stmt} {f c : Addr} {oc : Value} {od an : Option Addr} {osl : Array (Option Value)} {kV doc pm ct : Value} (l : K.lookup f = some ⟨oc, od, .func (PySem.W.fnOf x qual (defArgs st) (defBody st) (defScope st) .none kV doc pm an (.ref c) ct), osl⟩)
    (h : PySem.W.codeIn K (.ref c) qual = true) : FunC K x qual st f (PySem.W.fnOf x qual (defArgs st) (defBody st) (defScope st) .none kV doc pm an (.ref c) ct) c := ⟨⟨oc, od, kV, doc, pm, an, ct, osl, rfl, l, h⟩⟩
section
variable {P : Program} {w : World} {K : PySem.W.Frag} {mg : Str → Option Value} {base : Heap}
theorem FunC.ok {x qual : Str} {st : Stmt} {f c : Addr} {fd : FuncData} {N ps : List Str} {k : Nat} {sp : Sp} (F : FunC K x qual st f fd c) (S : FnScope N ps (defScope st)) (len : ∀ vs H Q E, sp vs H Q E → vs.length = ps.length)
    (body : ∀ (cdv : Value) (A : Around) (outer : List Env) (s : Shared) (H : Hp) (vs : List V) (Q : VK) (E : XK), cdv = .ref c → Room k (A.deeper (envOfC qual (defScope st) s.heap.objs.size f cdv)) → sp vs H Q E →
      ∃ t, PSs (cxOf CX0 P w K mg base N qual (defScope st) f cdv A outer s H E).nox (defBody st) t ∧ t { nx := fun _ H' => Q .non H', rt := Q } (start N vs) H) : FnOk P w K mg base CX0 (k + 1) f fd ps sp := by
  obtain ⟨_, _, _, _, _, _, _, _, rfl, lk, hcd⟩ := F.ex
  exact fn_of lk hcd S len fun A outer s H vs Q E hr hsp => (body (.ref c) A outer s H vs Q E rfl hr hsp).elim fun t z => ⟨t, z.1.nox, z.2⟩
end
section
variable {P : Program} {w : World} {K : PySem.W.Frag} {mg mb : Str → Option Value} {k : Nat} {fa a : Addr} {fd : FuncData} {x : Str} {sp : Sp} {s₁ : Shared} {vs : List Value} {ns : List Int}
/-- what is tracked when the law is called: the script and the tables -/
def scrT (K : PySem.W.Frag) (a : Addr) (ob : Obj) (ns : List Int) (Ps : List Addr) : Hp := fun b => if b ∈ Ps then some (.tbl #[]) else scr K a ob ns b
theorem scrT_some {ob : Obj} {Ps : List Addr} {b : Addr} {u : HO} (h : scrT K a ob ns Ps b = some u) : (b ∈ Ps ∧ u = .tbl #[]) ∨ (b ∉ Ps ∧ b = a ∧ K.lookup a = none ∧ u = .frz ob (.lst (ns.map V.int))) := by
  unfold scrT at h
  split at h
  · rename_i c
    exact .inl ⟨c, (Option.some.inj h).symm⟩
  · rename_i c
    exact .inr ⟨c, scr_some h⟩
abbrev eob : Obj := { cls := .none, data := .fields #[] }
theorem call_lawT {cs : List (Addr × Addr)} (inK : K.In s₁.heap) (gl : s₁.heap.Ns mainGlobals mg) (bl : s₁.heap.Ns builtinsNs mb) (boot : ∀ x : Str, x ≠ "__name__" → mb x = bootBuiltins x) (lim : s₁.heap.NoLimit) (quiet : s₁.gens = #[])
    (empty : ∀ p ∈ cs, s₁.heap.get? p.2 = some eob) (noK : ∀ p ∈ cs, K.lookup p.2 = none) (head : ∀ p ∈ cs, PySem.W.CodeHd s₁.heap p.1 p.2)
    (bmain : ∃ (bm : Addr) (ob : Obj), mg "__builtins__" = some (.ref bm) ∧ bm ≠ builtinsNs ∧ s₁.heap.get? bm = some ob ∧ ob.cls = .type "module" ∧ ob.dict = some builtinsNs ∧ ob.data = .plain)
    (there : s₁.heap.get? a = some { cls := .type "list", data := .seq vs.toArray }) (areInts : IntsAre vs ns) (len : ns.length ≤ sizeLine) (room : Room k callerA)
    (F : ∀ base : Heap, K.In base → base.Ns mainGlobals mg → (∀ p ∈ cs, GxR.TabB base mg p.1 p.2) → FnG P w K mg base k fa fd [x] sp) (binds : ∀ (s : Shared) (u : Value), BindsTo s fd ⟨[u], []⟩ [(x, u)])
    (asked : ∀ H : Hp, Tbs (cs.map (·.2)) H → SqL K H a (ns.map V.int) → sp [.ref a] H (fun v _ => v = .bl true) fun _ _ _ => False) :
    codeAny (model P w) callerA (.call (.ref fa) ⟨[.ref a], []⟩) (fun r s' => r = .ok (.ret (.bool true)) ∧ OldK s₁.heap s'.heap ∧ s'.os = s₁.os ∧ AllBare s'.gens) s₁ := by
  let ob : Obj := { cls := .type "list", data := .seq vs.toArray }
  let Ps := cs.map (·.2)
  let H := scrT K a ob ns Ps
  have at_ : ∀ {b u}, H b = some u → (b ∈ Ps ∧ u = .tbl #[]) ∨ (b ∉ Ps ∧ b = a ∧ K.lookup a = none ∧ u = .frz ob (.lst (ns.map V.int))) := scrT_some
  have isT : ∀ b ∈ Ps, s₁.heap.get? b = some eob := fun b hb => by
    obtain ⟨p, hp, e⟩ := List.mem_map.mp hb
    rw [← e]
    exact empty p hp
  have aT : a ∉ Ps := fun z => by
    have q := Option.some.inj ((isT a z).symm.trans there)
    have q2 : Data.fields #[] = Data.seq vs.toArray _ := congrArg Obj.data q
    cases q2
  have no : ∀ b o, s₁.heap.get? b = some o → (∀ q n, o.data ≠ .seq q n) → o.data ≠ .fields #[] → H b = none := fun b o e d1 d2 => by
    cases c : H b with
    | none => rfl
    | some u =>
      rcases at_ c with ⟨hb, _⟩ | ⟨_, rfl, _⟩
      · have q := Option.some.inj (e.symm.trans (isT b hb))
        exact absurd (by rw [q]) d2
      · have q := Option.some.inj (e.symm.trans there)
        exact absurd (by rw [q]) (d1 vs.toArray _)
  have keepNs : ∀ {b : Addr} {m : Str → Option Value}, s₁.heap.Ns b m → (hidT s₁.heap H).Ns b m := fun {b m} ⟨o, es, ep, e, d, r⟩ =>
    ⟨o, es, ep, hidT_get e (no b o e (fun q n z => by rw [d] at z; cases z) fun z => by rw [d] at z; cases z), d, r⟩
  have keepK : K.In (hidT s₁.heap H) := fun b o e => hidT_get (inK b o e) (by
    cases c : H b with
    | none => rfl
    | some u =>
      rcases at_ c with ⟨hb, _⟩ | ⟨_, rfl, n, _⟩
      · obtain ⟨p, hp, e2⟩ := List.mem_map.mp hb
        rw [← e2, noK p hp] at e
        cases e
      · rw [n] at e
        cases e)
  have rel := vals_ints areInts
  have holds : HOk P w H s₁.heap := fun b u c => by
    rcases at_ c with ⟨hb, rfl⟩ | ⟨_, rfl, _, rfl⟩
    · exact isT b hb
    · exact ⟨there, by rw [List.length_map]; exact len, vs, _, rel, there⟩
  have tbs : Tbs Ps H := fun b hb => ⟨#[], if_pos hb, by first | trivial | simp [TriplesOk]⟩
  have script : SqL K H a (ns.map V.int) := by
    cases c : K.lookup a with
    | none => exact Or.inl (Or.inr ⟨ob, (if_neg aT).trans (if_pos ⟨rfl, c⟩)⟩)
    | some o =>
      have e := Option.some.inj ((inK a o c).symm.trans there)
      subst e
      exact Or.inr ⟨_, vs.toArray, _, c, rfl, rfl, rfl, by rw [List.size_toArray, areInts.length]; exact len, by simpa using rel⟩
  have modul : Mod K mg (hidT s₁.heap H) := ⟨keepK, keepNs gl, ⟨mb, keepNs bl, boot⟩, lim.elim fun mc z => ⟨mc, keepNs z.1, z.2⟩⟩
  have tabB : ∀ p ∈ cs, GxR.TabB (hidT s₁.heap H) mg p.1 p.2 := fun p hp => by
    refine ⟨?_, ?_, fun z => ?_⟩
    · obtain ⟨o, us, file, tf, flags, tg, inF, text, tt, e1, r0, r1, r2, rest⟩ := head p hp
      refine ⟨o, us, file, tf, flags, tg, inF, text, tt, hidT_get e1 (no _ _ e1 (fun q n z => ?_) fun z => ?_), r0, r1, r2, rest⟩
      · rw [r1] at z
        cases z
      · rw [r1] at z
        cases z
        simp at r2
    · obtain ⟨bm, o, b1, b2, b3, b4, b5, b6⟩ := bmain
      refine ⟨bm, o, b1, b2, fun q => ?_, fun q => ?_, hidT_get b3 (no _ _ b3 (fun q n z => ?_) fun z => ?_), b4, b5, b6⟩
      · obtain ⟨o2, es, ep, e, d, _⟩ := gl
        rw [q, e] at b3
        cases b3
        rw [d] at b6
        cases b6
      · rw [q, empty p hp] at b3
        cases b3
        cases b6
      · rw [b6] at z
        cases z
      · rw [b6] at z
        cases z
    · obtain ⟨o2, es, ep, e, d, _⟩ := gl
      rw [z, empty p hp] at e
      cases e
      cases d
  have start0 : Env0 P w K mg (hidT s₁.heap H) callerA [] s₁ H := ⟨rfl, modul, fun b o e => of_hidT e, Nat.le_of_eq (hidT_size _ _), trivial, fun b hb => (List.not_mem_nil hb).elim, holds, .of_eq quiet⟩
  refine codeAny_mono ((F _ keepK (keepNs gl) tabB).does callerA [] s₁ H _ [.ref a] [.ref a] _ _ room rfl start0 (binds s₁ (.ref a)) (.cons rfl .nil) (asked H tbs script)) ?_
  intro r s' post
  match r, post with
  | .error e, post => exact False.elim post
  | .ok .next, post => exact post.elim
  | .ok .brk, post => exact post.elim
  | .ok .cont, post => exact post.elim
  | .ok (.ret u), ⟨v, H', os, bare, un, held, rv, e⟩ =>
    cases (show v = V.bl true from e)
    cases (show u = Value.bool true from rv)
    have key : ∀ b o, b ∉ Ps → s₁.heap.get? b = some o → s'.heap.get? b = some o := fun b o nb g => by
      cases c : H b with
      | none => exact un.keep b o g c (fun z => (List.not_mem_nil z).elim) (fun z => (List.not_mem_nil z).elim)
      | some u =>
        rcases at_ c with ⟨hb, _⟩ | ⟨_, rfl, _, rfl⟩
        · exact absurd hb nb
        · rw [Option.some.inj (g.symm.trans there)]
          exact (held b _ (un.frzs b ob _ c)).1
    have grown : ∀ p ∈ cs, ∃ more : Array Value, s'.heap.get? p.2 = some { cls := .none, data := .fields more } := fun p hp =>
      (un.tbls p.2 #[] (if_pos (List.mem_map.mpr ⟨p, hp, rfl⟩))).elim fun more z => ⟨_, held p.2 _ z⟩
    refine ⟨rfl, ⟨fun b o g => ?_, fun b o g => ?_⟩, os, bare⟩
    · by_cases hb : b ∈ Ps
      · obtain ⟨p, hp, e2⟩ := List.mem_map.mp hb
        obtain ⟨more, hm⟩ := grown p hp
        subst e2
        cases Option.some.inj (g.symm.trans (empty p hp))
        exact .inr (.inl ⟨((head p hp).tab (empty p hp)).isCodeTable, rfl, #[], more, rfl, by rw [Array.empty_append]; exact hm⟩)
      · exact .inl (key b o hb g)
    · by_cases hb : b ∈ Ps
      · obtain ⟨p, hp, e2⟩ := List.mem_map.mp hb
        subst e2
        exact (grown p hp).elim fun _ z => ⟨_, z⟩
      · exact ⟨o, key b o hb g⟩
end
/-- the goal that is left of a law: xs, the defs in which a generator expression stands -/
theorem walk_ofT {l : PySem.W.OpenLaw} {n k : Nat} {q : Program} {loose : List Str} {XP : (Str → Option Value) → Heap → Prop} {YP : World → Heap → Prop} {d : DefRec} {K : Params → PySem.W.Frag} {sp : World → List Addr → Sp} {x : Str} (xs : List Str)
    (most : l.most = some n) (n9 : n ≤ sizeLine) (nodf : d.params.defaults = []) (room : Room k callerA) (inK : ∀ (w : World) (h : Heap), YP w h → (K w.params).In h) (recs : ∀ y ∈ xs, ((recsOf q).any fun e => e.name == y) = true)
    (F : ∀ (w : World) (mg : Str → Option Value) (fa : Addr) (h : Heap), (K w.params).In h → h.Ns mainGlobals mg → mg d.name = some (.ref fa) →
      ∃ (fd : FuncData) (cs : List (Addr × Addr)), (∀ p ∈ cs, ∃ y ∈ xs, PySem.W.tabIn (K w.params) y = some p) ∧ (∀ p ∈ cs, (K w.params).lookup p.2 = none) ∧ (∀ (s : Shared) (u : Value), BindsTo s fd ⟨[u], []⟩ [(x, u)]) ∧
        ∀ base : Heap, (K w.params).In base → base.Ns mainGlobals mg → (∀ p ∈ cs, GxR.TabB base mg p.1 p.2) → FnG l.prog w (K w.params) mg base k fa fd [x] (sp w (cs.map (·.2))))
    (asked : ∀ (w : World) (Ps : List Addr) (H : Hp) (a : Addr) (ns : List Int), ns.length ≤ n → Tbs Ps H → SqL (K w.params) H a (ns.map V.int) → sp w Ps [.ref a] H (fun v _ => v = .bl true) fun _ _ _ => False) :
    PySem.W.WalkO q loose XP YP l.row.toRowW d [] (fun f vs => PySem.call f vs) :=
  Att.attach_call most nodf fun w s₀ s₁ mg mb fa o pm cd doc a vs ns G Y ho hd hcd hmg hobj hints hlen hg => by
    obtain ⟨fd, cs, ht, hn, b, f⟩ := F w mg fa _ (inK w _ Y) G.T.g hmg
    have tab : ∀ p ∈ cs, PySem.W.CodeHd s₁.heap p.1 p.2 ∧ s₁.heap.get? p.2 = some eob := fun p hp => by
      obtain ⟨y, hy, e⟩ := ht p hp
      obtain ⟨r, hr⟩ : ∃ r, (recsOf q).find? (fun e => e.name == y) = some r := Option.isSome_iff_exists.mp (by
        rw [List.find?_isSome]
        exact List.any_eq_true.mp (recs y hy))
      exact PySem.W.tab_of G.T (inK w _ Y) hr e
    exact call_lawT (inK w _ Y) G.T.g G.T.b G.T.builtins G.T.nolimit hg (fun p hp => (tab p hp).2) hn (fun p hp => (tab p hp).1) G.T.bmain hobj hints (Nat.le_trans hlen n9) room f b fun H tbs sc => asked w _ H a ns hlen tbs sc
/-- a comprehension in a comprehension -/
theorem blkOk_nest {N : List Str} {outer scope sc : Scope} {own : List (Str × Nat)} {cl : List (Str × Addr)} {C : Addr} {env : Env} (hs : env.scope = sc) (h : blkC N (relS outer sc) scope own = true) : BlkOk N (compEnvC outer cl C env).scope scope own := by
  subst hs
  exact blkOk_by h
/-- tuple(x) of a list or a tuple -/
def rTupI (K : PySem.W.Frag) : List V → Hp → VK → Prop := fun xs H Q => ∃ p ys, xs = [.ref p] ∧ ((SqL K H p ys ∧ ∀ l H', Same H H' → H l = none → H' l = some (.tup ys) → Q (.ref l) H') ∨ (SqT K H p ys ∧ Q (.ref p) H))
theorem tupI {X : Cx} {K : PySem.W.Frag} (h : X.K = K) : CallR X (.type "tuple") (rTupI K) := fun pins s σ H xs us Q I r ⟨p, ys, e, q⟩ =>
  call_tuple_of pins s σ H xs us Q I r ⟨p, ys, e, h ▸ q.imp (fun z => ⟨z.1, fun l hl => z.2 l _ (same_new hl) hl upd_same⟩) id⟩
theorem tabIn_of {K : PySem.W.Frag} {x : Str} {f c P : Addr} {oc e : Value} {od dd : Option Addr} {fd : FuncData} {osl sl : Array (Option Value)} {vs : Array Value} (a : PySem.W.nsIn K mainGlobals x = some (some (.ref f))) (l : K.lookup f = some ⟨oc, od, .func fd, osl⟩)
    (hc : fd.code = .ref c) (q : K.lookup c = some ⟨e, dd, .fields vs, sl⟩) (p : vs[11]? = some (.ref P)) : PySem.W.tabIn K x = some (c, P) := by
  unfold PySem.W.tabIn
  rw [a]
  dsimp only
  rw [l]
  dsimp only
  rw [hc]
  dsimp only
  rw [q]
  dsimp only
  rw [p]
end KR
/-! ### fractions as numbers of the field -/
namespace KR
open PySem PySem.Spec PyProof.Rows L2
theorem Same.tup {K : PySem.W.Frag} {H H' : Hp} {a : Addr} {xs : List V} (e : Same H H') (h : SqT K H a xs) : SqT K H' a xs :=
  h.elim (fun h => .inl (h.elim (fun h => .inl (e _ _ h)) fun ⟨o, h⟩ => .inr ⟨o, e _ _ h⟩)) fun h => .inr h
theorem sqT_ty {K : PySem.W.Frag} {H : Hp} {a : Addr} {xs : List V} (h : SqT K H a xs) : TyX K H (.ref a) (.type "tuple") := by
  rcases h with (h | ⟨o, h⟩) | ⟨o, its, n, h1, h2, _⟩
  · exact .base (.tup h)
  · exact .fTuple h
  · exact .kTuple h1 h2
theorem sqT_frL {K : PySem.W.Frag} {H H' : Hp} {a p : Addr} {xs ys : List V} (h : SqT K H a xs) (hp : H p = some (.lst ys)) (f : Fr p H H') : SqT K H' a xs := by
  rcases h with (h | ⟨o, h⟩) | h
  · exact .inl (.inl (f _ _ (ne_of h hp (by intro z; cases z)) h))
  · exact .inl (.inr ⟨o, f _ _ (ne_of h hp (by intro z; cases z)) h⟩)
  · exact .inr h
theorem sqT_fr {K : PySem.W.Frag} {H H' : Hp} {a p : Addr} {n : Nat} {xs : List V} (h : SqT K H a xs) (B : BoxAt H p n) (f : Fr p H H') : SqT K H' a xs := by
  obtain ⟨i, j, k, hp, _⟩ := B
  exact sqT_frL h hp f
theorem fr_upd {p : Addr} {H : Hp} {o : HO} : Fr p H (upd H p o) := Fr.put Fr.refl
theorem BoxAt.upd {H : Hp} {p D : Addr} {n : Nat} {o : HO} (h : BoxAt H p n) (ne : D ≠ p) : BoxAt (L2.upd H D o) p n := by
  obtain ⟨a, b, c, h1, h2⟩ := h
  exact ⟨a, b, c, by rw [upd_ne ne.symm]; exact h1, h2⟩
def rq (t b : Int) : Rat := (t : Rat) / (b : Rat)
theorem rat_nd (q : Rat) : (q.num : Rat) / ((q.den : Int) : Rat) = q := by rw [← Rat.divInt_eq_div, Rat.num_divInt_den]
theorem den_ne (q : Rat) : ((q.den : Int) : Rat) ≠ 0 := by
  intro h
  have k := q.den_pos
  have h2 : ((q.den : Int) : Rat) = ((0 : Int) : Rat) := h
  have e := Rat.intCast_inj.mp h2
  omega
theorem den_ne' (q : Rat) : (q.den : Int) ≠ 0 := by
  have k := q.den_pos
  omega
theorem int_ne {b : Int} (h : b ≠ 0) : (b : Rat) ≠ 0 := fun z => h (Rat.intCast_inj.mp (z.trans (by rfl : (0 : Rat) = ((0 : Int) : Rat))))
theorem rat_low (q : Rat) : IsLow q.num q.den := ⟨by have k := q.den_pos; omega, by rw [Int.natAbs_natCast]; exact q.reduced⟩
theorem rq_cross {t b : Int} (hb : b ≠ 0) : t * ((rq t b).den : Int) = (rq t b).num * b := by
  have e := rat_nd (rq t b)
  have h1 := den_ne (rq t b)
  have h2 := int_ne hb
  refine Rat.intCast_inj.mp ?_
  rw [Rat.intCast_mul, Rat.intCast_mul]
  generalize ((rq t b).den : Int) = d at *
  generalize (rq t b).num = n at *
  unfold rq at e
  grind
theorem rq_low {t b : Int} (hb : b ≠ 0) : low t b = ((rq t b).num, ((rq t b).den : Int)) := low_eq hb (rat_low _) (rq_cross hb)
theorem cast_pos {b : Int} (h : 0 < b) : (0 : Rat) < (b : Rat) := (Rat.intCast_lt_intCast (a := 0)).mpr h
theorem cast_nn {b : Int} (h : 0 ≤ b) : (0 : Rat) ≤ (b : Rat) := (Rat.intCast_le_intCast (a := 0)).mpr h
theorem le_div {a b c : Rat} (h : 0 < c) (k : a * c ≤ b) : a ≤ b / c := Rat.not_lt.mp fun z => absurd ((Rat.div_lt_iff h).mp z) (Rat.not_lt.mpr k)
theorem div_le {a b c : Rat} (h : 0 < c) (k : b ≤ a * c) : b / c ≤ a := Rat.not_lt.mp fun z => absurd ((Rat.lt_div_iff h).mp z) (Rat.not_lt.mpr k)
theorem rq_nn {t b : Int} (ht : 0 ≤ t) (hb : 0 < b) : 0 ≤ rq t b := by
  have h1 := cast_nn ht
  have h2 := cast_pos hb
  unfold rq
  generalize (t : Rat) = x at *
  generalize (b : Rat) = y at *
  exact le_div h2 (by grind)
theorem rq_pos {t b : Int} (ht : 0 < t) (hb : 0 < b) : 0 < rq t b := by
  have h1 := cast_pos ht
  have h2 := cast_pos hb
  unfold rq
  generalize (t : Rat) = x at *
  generalize (b : Rat) = y at *
  exact (Rat.lt_div_iff h2).mpr (by grind)
theorem rq_lt_one {t b : Int} (ht : t < b) (hb : 0 < b) : rq t b < 1 := by
  have h1 := Rat.intCast_lt_intCast.mpr ht
  have h2 := cast_pos hb
  unfold rq
  generalize (t : Rat) = x at *
  generalize (b : Rat) = y at *
  exact (Rat.div_lt_iff h2).mpr (by grind)
theorem rq_le_one {t b : Int} (ht : t ≤ b) (hb : 0 < b) : rq t b ≤ 1 := by
  have h1 := Rat.intCast_le_intCast.mpr ht
  have h2 := cast_pos hb
  unfold rq
  generalize (t : Rat) = x at *
  generalize (b : Rat) = y at *
  exact div_le h2 (by grind)
theorem rq_add (p q : Rat) : rq (p.num * q.den + q.num * p.den) (p.den * q.den) = p + q := by
  have e1 := rat_nd p
  have e2 := rat_nd q
  have h1 := den_ne p
  have h2 := den_ne q
  unfold rq
  rw [Rat.intCast_add, Rat.intCast_mul, Rat.intCast_mul, Rat.intCast_mul]
  generalize ((p.den : Int) : Rat) = d at *
  generalize (p.num : Rat) = n at *
  generalize ((q.den : Int) : Rat) = d2 at *
  generalize (q.num : Rat) = n2 at *
  grind
theorem rq_sub (p q : Rat) : rq (p.num * q.den - q.num * p.den) (p.den * q.den) = p - q := by
  have e1 := rat_nd p
  have e2 := rat_nd q
  have h1 := den_ne p
  have h2 := den_ne q
  unfold rq
  rw [Rat.intCast_sub, Rat.intCast_mul, Rat.intCast_mul, Rat.intCast_mul]
  generalize ((p.den : Int) : Rat) = d at *
  generalize (p.num : Rat) = n at *
  generalize ((q.den : Int) : Rat) = d2 at *
  generalize (q.num : Rat) = n2 at *
  grind
theorem rq_mul (p q : Rat) : rq (p.num * q.num) (p.den * q.den) = p * q := by
  have e1 := rat_nd p
  have e2 := rat_nd q
  have h1 := den_ne p
  have h2 := den_ne q
  unfold rq
  rw [Rat.intCast_mul, Rat.intCast_mul]
  generalize ((p.den : Int) : Rat) = d at *
  generalize (p.num : Rat) = n at *
  generalize ((q.den : Int) : Rat) = d2 at *
  generalize (q.num : Rat) = n2 at *
  grind
theorem rq_div (p q : Rat) : rq (p.num * q.den) (p.den * q.num) = p / q := by
  have e1 := rat_nd p
  have e2 := rat_nd q
  have h1 := den_ne p
  have h2 := den_ne q
  unfold rq
  rw [Rat.intCast_mul, Rat.intCast_mul]
  generalize ((p.den : Int) : Rat) = d at *
  generalize (p.num : Rat) = n at *
  generalize ((q.den : Int) : Rat) = d2 at *
  generalize (q.num : Rat) = n2 at *
  grind
theorem rq_self (q : Rat) : rq q.num q.den = q := rat_nd q
theorem num_ne {q : Rat} (h : q ≠ 0) : q.num ≠ 0 := fun z => h (by
  have e := rat_nd q
  rw [z] at e
  rw [← e]
  grind)
theorem num_zero {q : Rat} : q.num = 0 ↔ q = 0 := ⟨fun z => Classical.byContradiction fun y => num_ne y z, fun z => by rw [z] <;> rfl⟩
theorem num_pos {q : Rat} : 0 < q.num ↔ 0 < q := by
  have k := Rat.lt_iff 0 q
  simp at k
  exact k.symm
theorem num_nn {q : Rat} : 0 ≤ q.num ↔ 0 ≤ q := Rat.num_nonneg
theorem lt_cross (p q : Rat) : (p.num * q.den < q.num * p.den) ↔ p < q := (Rat.lt_iff p q).symm
/-- top and bottom fit so many bits -/
def Sz (n : Nat) (q : Rat) : Prop := q.num.natAbs < 2 ^ n ∧ (q.den : Int).natAbs < 2 ^ n
theorem Sz.up {n m : Nat} {q : Rat} (h : Sz n q) (le : n ≤ m) : Sz m q := ⟨lt_up h.1 le, lt_up h.2 le⟩
theorem sz_rq {t b : Int} {n : Nat} (hb : b ≠ 0) (h1 : t.natAbs < 2 ^ n) (h2 : b.natAbs < 2 ^ n) : Sz n (rq t b) := by
  have k := low_lt h1 h2
  rw [rq_low hb] at k
  exact k
theorem Sz.int {z : Int} {n : Nat} (h : z.natAbs < 2 ^ n) (h0 : 0 < n) : Sz n (z : Rat) := ⟨h, Nat.lt_of_lt_of_le (by decide : (1 : Nat) < 2 ^ 1) (Nat.pow_le_pow_right (by decide) h0)⟩
theorem Sz.neg {n : Nat} {q : Rat} (h : Sz n q) : Sz n (-q) := ⟨by
  show (-q.num).natAbs < 2 ^ n
  rw [Int.natAbs_neg]
  exact h.1, h.2⟩
/-- a fraction that is read -/
def FrQ (K : PySem.W.Frag) (H : Hp) (x : Addr) (q : Rat) : Prop := SqT K H x [.int q.num, .int (q.den : Int)]
theorem FrQ.same {K : PySem.W.Frag} {H H' : Hp} {x : Addr} {q : Rat} (h : FrQ K H x q) (s : Same H H') : FrQ K H' x q := Same.tup s h
theorem FrQ.fr {K : PySem.W.Frag} {H H' : Hp} {x p : Addr} {n : Nat} {q : Rat} (h : FrQ K H x q) (B : BoxAt H p n) (f : Fr p H H') : FrQ K H' x q := sqT_fr h B f
theorem FrQ.of {K : PySem.W.Frag} {H : Hp} {x : Addr} {q : Rat} (h : H x = some (.tup [.int q.num, .int (q.den : Int)])) : FrQ K H x q := SqT.of h
theorem FrQ.int {K : PySem.W.Frag} {H : Hp} {x : Addr} {z : Int} (h : H x = some (.tup [.int z, .int 1])) : FrQ K H x (z : Rat) := SqT.of h
/-- a juice that is read -/
def JuQ (K : PySem.W.Frag) (H : Hp) (x : Addr) (s w : Rat) : Prop := ∃ a b, SqT K H x [.ref a, .ref b] ∧ FrQ K H a s ∧ FrQ K H b w
theorem JuQ.same {K : PySem.W.Frag} {H H' : Hp} {x : Addr} {s w : Rat} (h : JuQ K H x s w) (e : Same H H') : JuQ K H' x s w := by
  obtain ⟨a, b, h1, h2, h3⟩ := h
  exact ⟨a, b, Same.tup e h1, h2.same e, h3.same e⟩
theorem JuQ.fr {K : PySem.W.Frag} {H H' : Hp} {x p : Addr} {n : Nat} {s w : Rat} (h : JuQ K H x s w) (B : BoxAt H p n) (f : Fr p H H') : JuQ K H' x s w := by
  obtain ⟨a, b, h1, h2, h3⟩ := h
  exact ⟨a, b, sqT_fr h1 B f, h2.fr B f, h3.fr B f⟩
theorem JuQ.new {K : PySem.W.Frag} {H : Hp} {x a b : Addr} {s w : Rat} (h : H x = some (.tup [.ref a, .ref b])) (ha : FrQ K H a s) (hb : FrQ K H b w) : JuQ K H x s w := ⟨a, b, SqT.of h, ha, hb⟩
/-- a new pair of two numbers' lowest terms -/
def sp_lowQ (K : PySem.W.Frag) : Sp := fun vs H Q _ => ∃ (t b : Int) (n : Nat), vs = [.int t, .int b] ∧ b ≠ 0 ∧ t.natAbs < 2 ^ n ∧ b.natAbs < 2 ^ n ∧ n ≤ 2000 ∧ ∀ p H', Same H H' → H p = none → FrQ K H' p (rq t b) → Sz n (rq t b) → Q (.ref p) H'
theorem lowQ {K : PySem.W.Frag} {vs : List V} {H : Hp} {Q : VK} {E : XK} (h : sp_lowQ K vs H Q E) : sp_low vs H Q E := by
  obtain ⟨t, b, n, e, hb, h1, h2, hn, q⟩ := h
  refine ⟨t, b, e, hb, lt_up h1 hn, lt_up h2 hn, fun p H' s hp h' => q p H' s hp ?_ (sz_rq hb h1 h2)⟩
  rw [rq_low hb] at h'
  exact .of h'
/-- two fractions in, one out -/
def sp_q2 (K : PySem.W.Frag) (f : Rat → Rat → Rat) (ok : Rat → Rat → Prop) : Sp := fun vs H Q _ => ∃ (x y : Addr) (p q : Rat) (m n : Nat), vs = [.ref x, .ref y] ∧ FrQ K H x p ∧ FrQ K H y q ∧ Sz m p ∧ Sz n q ∧ m + n ≤ 1900 ∧ ok p q ∧
  ∀ z H', Same H H' → H z = none → FrQ K H' z (f p q) → Sz (m + n + 1) (f p q) → Q (.ref z) H'
def sp_less (K : PySem.W.Frag) : Sp := fun vs H Q _ => ∃ (x y : Addr) (p q : Rat), vs = [.ref x, .ref y] ∧ FrQ K H x p ∧ FrQ K H y q ∧ Sz 1900 p ∧ Sz 1900 q ∧ Q (.bl (decide (p < q))) H
theorem mulZ {i j : Int} {a b : Nat} (ha : i.natAbs < 2 ^ a) (hb : j.natAbs < 2 ^ b) (h : a + b ≤ 100000) : IntMulOk i j :=
  mulW (lt_up ha (by omega : a ≤ a + 1)) (lt_up hb (by omega : b ≤ b + 1)) (by omega) (by omega) (by omega)
/-! data of the law's own making, tuples of the written part among them -/
inductive Dk (K : PySem.W.Frag) (H : Hp) : Nat → V → PyData → Prop
  | non (n : Nat) : Dk K H (n + 1) .non .none
  | bl (n : Nat) (b : Bool) : Dk K H (n + 1) (.bl b) (.bool b)
  | int (n : Nat) (i : Int) : Dk K H (n + 1) (.int i) (.int i)
  | str (n : Nat) (x : Str) (ok : PyData.canLay0 (.str x) = true) : Dk K H (n + 1) (.str x) (.str x)
  | lst {n : Nat} {a : Addr} {xs : List V} {ds : List PyData} : H a = some (.lst xs) → xs.length = ds.length → xs.length ≤ 100000 → (∀ (i : Nat) (x : V) (d : PyData), xs[i]? = some x → ds[i]? = some d → Dk K H n x d) → Dk K H (n + 1) (.ref a) (.list ds)
  | tup {n : Nat} {a : Addr} {xs : List V} {ds : List PyData} : SqT K H a xs → xs.length = ds.length → xs.length ≤ 100000 → (∀ (i : Nat) (x : V) (d : PyData), xs[i]? = some x → ds[i]? = some d → Dk K H n x d) → Dk K H (n + 1) (.ref a) (.tuple ds)
theorem Dk.same {K : PySem.W.Frag} {H H' : Hp} (s : Same H H') : ∀ {n : Nat} {v : V} {d : PyData}, Dk K H n v d → Dk K H' n v d := by
  intro n v d h
  induction h with
  | non n => exact .non n
  | bl n b => exact .bl n b
  | int n i => exact .int n i
  | str n x ok => exact .str n x ok
  | lst h1 h2 h3 _ ih => exact .lst (s _ _ h1) h2 h3 ih
  | tup h1 h2 h3 _ ih => exact .tup (Same.tup s h1) h2 h3 ih
theorem Dk.up {K : PySem.W.Frag} {H : Hp} {n m : Nat} {v : V} {d : PyData} (h : Dk K H n v d) : n ≤ m → Dk K H m v d := by
  intro le
  induction h generalizing m with
  | non n => obtain ⟨k, rfl⟩ : ∃ k, m = k + 1 := ⟨m - 1, by omega⟩; exact .non k
  | bl n b => obtain ⟨k, rfl⟩ : ∃ k, m = k + 1 := ⟨m - 1, by omega⟩; exact .bl k b
  | int n i => obtain ⟨k, rfl⟩ : ∃ k, m = k + 1 := ⟨m - 1, by omega⟩; exact .int k i
  | str n x ok => obtain ⟨k, rfl⟩ : ∃ k, m = k + 1 := ⟨m - 1, by omega⟩; exact .str k x ok
  | lst h1 h2 h3 _ ih => obtain ⟨k, rfl⟩ : ∃ k, m = k + 1 := ⟨m - 1, by omega⟩; exact .lst h1 h2 h3 fun i x d a b => ih i x d a b (by omega)
  | tup h1 h2 h3 _ ih => obtain ⟨k, rfl⟩ : ∃ k, m = k + 1 := ⟨m - 1, by omega⟩; exact .tup h1 h2 h3 fun i x d a b => ih i x d a b (by omega)
/-- rows of data beside their values -/
def DkAll (K : PySem.W.Frag) (H : Hp) (n : Nat) (xs : List V) (ds : List PyData) : Prop := xs.length = ds.length ∧ ∀ (i : Nat) (x : V) (d : PyData), xs[i]? = some x → ds[i]? = some d → Dk K H n x d
theorem DkAll.nil {K : PySem.W.Frag} {H : Hp} {n : Nat} : DkAll K H n [] [] := ⟨rfl, fun i x d h => by simp at h⟩
theorem DkAll.cons {K : PySem.W.Frag} {H : Hp} {n : Nat} {x : V} {d : PyData} {xs : List V} {ds : List PyData} (h : Dk K H n x d) (t : DkAll K H n xs ds) : DkAll K H n (x :: xs) (d :: ds) :=
  ⟨by rw [List.length_cons, List.length_cons, t.1], fun i u v hu hv => match i, hu, hv with
    | 0, hu, hv => by cases hu; cases hv; exact h
    | i + 1, hu, hv => t.2 i u v hu hv⟩
theorem DkAll.tup {K : PySem.W.Frag} {H : Hp} {n : Nat} {xs : List V} {ds : List PyData} {a : Addr} (t : DkAll K H n xs ds) (h : SqT K H a xs) (z : Nat.ble xs.length 100000 = true := by rfl) : Dk K H (n + 1) (.ref a) (.tuple ds) := .tup h t.1 (Nat.le_of_ble_eq_true z) t.2
theorem DkAll.lst {K : PySem.W.Frag} {H : Hp} {n : Nat} {xs : List V} {ds : List PyData} {a : Addr} (t : DkAll K H n xs ds) (h : H a = some (.lst xs)) (z : Nat.ble xs.length 100000 = true := by rfl) : Dk K H (n + 1) (.ref a) (.list ds) := .lst h t.1 (Nat.le_of_ble_eq_true z) t.2
/-- the data of a fraction, of a juice -/
def dq (q : Rat) : PyData := .tuple [.int q.num, .int (q.den : Int)]
def dj (s w : Rat) : PyData := .tuple [dq s, dq w]
theorem FrQ.dk {K : PySem.W.Frag} {H : Hp} {x : Addr} {q : Rat} (h : FrQ K H x q) (n : Nat := 0) : Dk K H (n + 2) (.ref x) (dq q) := DkAll.tup (.cons (.int _ _) (.cons (.int _ _) .nil)) h
theorem JuQ.dk {K : PySem.W.Frag} {H : Hp} {x : Addr} {s w : Rat} (h : JuQ K H x s w) (n : Nat := 0) : Dk K H (n + 3) (.ref x) (dj s w) := by
  obtain ⟨a, b, h1, h2, h3⟩ := h
  exact DkAll.tup (.cons (h2.dk n) (.cons (h3.dk n) .nil)) h1
/-- forty figures -/
theorem b133 {n : Nat} (h : n < 10 ^ 40) : n < 2 ^ 133 := Nat.lt_trans h (by decide)
/-- a fraction or None -/
def OQ (K : PySem.W.Frag) (H : Hp) (v : V) : Option Rat → Prop
  | none => v = .non
  | some q => ∃ x, v = .ref x ∧ FrQ K H x q
theorem OQ.same {K : PySem.W.Frag} {H H' : Hp} {v : V} {o : Option Rat} (h : OQ K H v o) (e : Same H H') : OQ K H' v o := by
  cases o with
  | none => exact h
  | some q =>
    obtain ⟨x, e1, h1⟩ := h
    exact ⟨x, e1, h1.same e⟩
def oq : Option Rat → PyData
  | none => .none
  | some q => dq q
theorem OQ.dk {K : PySem.W.Frag} {H : Hp} {v : V} {o : Option Rat} (h : OQ K H v o) (n : Nat := 0) : Dk K H (n + 2) v (oq o) := by
  cases o with
  | none => rw [show v = .non from h]; exact .non _
  | some q =>
    obtain ⟨x, e1, h1⟩ := h
    rw [e1]
    exact h1.dk n
/-- the strength of a juice -/
def stren (s w : Rat) : Option Rat := if s + w = 0 then none else some (s / (s + w))
theorem stren_part {s w t : Rat} (h : t ≠ 0) : stren (s * t) (w * t) = stren s w := by
  unfold stren
  by_cases c : s + w = 0
  · rw [if_pos c, if_pos (by grind)]
  · rw [if_neg c, if_neg (by grind)]
    congr 1
    grind
theorem stren_more {s w t : Rat} (h : 0 ≤ t) : stren (s + s * t) (w + w * t) = stren s w := by
  have e1 : s + s * t = s * (1 + t) := by grind
  have e2 : w + w * t = w * (1 + t) := by grind
  rw [e1, e2]
  exact stren_part (by grind)
theorem strength_between {s w x y : Rat} (hs : 0 ≤ s) (hw : 0 ≤ w) (hx : 0 ≤ x) (hy : 0 ≤ y) (h1 : s + w ≠ 0) (h2 : x + y ≠ 0) (le : s / (s + w) ≤ x / (x + y)) :
    s / (s + w) ≤ (s + x) / (s + x + (w + y)) ∧ (s + x) / (s + x + (w + y)) ≤ x / (x + y) := by
  have p1 : 0 < s + w := by grind
  have p2 : 0 < x + y := by grind
  have p3 : 0 < s + x + (w + y) := by grind
  generalize ea : s / (s + w) = a at *
  generalize eb : x / (x + y) = b at *
  have sa : s = a * (s + w) := by grind
  have xb : x = b * (x + y) := by grind
  have d : 0 ≤ b - a := by grind
  constructor
  · refine le_div p3 ?_
    have k := Rat.mul_nonneg d (Rat.le_of_lt p2)
    grind
  · refine div_le p3 ?_
    have k := Rat.mul_nonneg d (Rat.le_of_lt p1)
    grind
theorem is_zero {q : Rat} : decide (q.num = 0 ∧ (q.den : Int) = 1) = decide (q = 0) := by
  rw [decide_eq_decide]
  constructor
  · rintro ⟨h, _⟩
    exact num_zero.mp h
  · rintro rfl
    exact ⟨rfl, rfl⟩
/-- boiling -/
def wat (s u : Rat) : Rat := s / u - s
def boil (s w : Rat) (f : Int) (u h : Rat) : Rat := if wat s u < w then (if w - f * h < wat s u then wat s u else w - f * h) else w
theorem rq_wat (s u : Rat) (hu : u ≠ 0) : rq (s.num * ((u.den : Int) - u.num)) (s.den * u.num) = wat s u := by
  have e1 := rat_nd s
  have e2 := rat_nd u
  have h1 := den_ne s
  have h2 := den_ne u
  have h3 := int_ne (num_ne hu)
  unfold rq wat
  rw [Rat.intCast_mul, Rat.intCast_mul, Rat.intCast_sub]
  generalize ((s.den : Int) : Rat) = d at *
  generalize (s.num : Rat) = n at *
  generalize ((u.den : Int) : Rat) = d2 at *
  generalize (u.num : Rat) = n2 at *
  rw [← e1, ← e2]
  grind
theorem Sz.add {m n : Nat} {p q : Rat} (h : Sz m p) (k : Sz n q) : Sz (m + n + 1) (p + q) := by
  rw [← rq_add]
  exact sz_rq (Int.mul_ne_zero (den_ne' p) (den_ne' q)) (lt_up (add_lt (wide_lt h.1 k.2) (lt_up (wide_lt k.1 h.2) (by omega : n + m ≤ m + n))) (by omega)) (lt_up (wide_lt h.2 k.2) (by omega))
theorem Sz.sub {m n : Nat} {p q : Rat} (h : Sz m p) (k : Sz n q) : Sz (m + n + 1) (p - q) := by
  rw [← rq_sub]
  exact sz_rq (Int.mul_ne_zero (den_ne' p) (den_ne' q)) (lt_up (sub_lt (wide_lt h.1 k.2) (lt_up (wide_lt k.1 h.2) (by omega : n + m ≤ m + n))) (by omega)) (lt_up (wide_lt h.2 k.2) (by omega))
theorem Sz.mul {m n : Nat} {p q : Rat} (h : Sz m p) (k : Sz n q) : Sz (m + n) (p * q) := by
  rw [← rq_mul]
  exact sz_rq (Int.mul_ne_zero (den_ne' p) (den_ne' q)) (wide_lt h.1 k.1) (wide_lt h.2 k.2)
theorem Sz.wat {m n : Nat} {s u : Rat} (h : Sz m s) (k : Sz n u) (hu : u ≠ 0) : Sz (m + n + 1) (wat s u) := by
  rw [← rq_wat s u hu]
  exact sz_rq (Int.mul_ne_zero (den_ne' s) (num_ne hu)) (lt_up (wide_lt h.1 (sub_lt k.2 k.1)) (by omega)) (lt_up (wide_lt h.2 k.1) (by omega))
theorem Sz.boil {a b c n N : Nat} {s w u h : Rat} {f : Int} (zs : Sz a s) (zu : Sz n u) (hu : u ≠ 0) (zw : Sz b w) (zh : Sz c h) (hf : f.natAbs < 2 ^ 14) (h1 : a + n + 1 ≤ N) (h2 : b + (14 + c) + 1 ≤ N) : Sz N (KR.boil s w f u h) := by
  unfold KR.boil
  split
  · split
    · exact (Sz.wat zs zu hu).up h1
    · exact (Sz.sub zw (Sz.mul (Sz.int hf (by decide)) zh)).up h2
  · exact zw.up (by omega)
theorem boil_zero {s w u : Rat} {f : Int} : boil s w f u 0 = w := by
  unfold boil
  rw [Rat.mul_zero]
  split <;> grind
theorem boil_boil {s w u h k : Rat} {f : Int} (hf : 0 ≤ f) (hh : 0 ≤ h) (hk : 0 ≤ k) : boil s (boil s w f u h) f u k = boil s w f u (h + k) := by
  have f0 := cast_nn hf
  have a0 := Rat.mul_nonneg f0 hh
  have b0 := Rat.mul_nonneg f0 hk
  unfold boil
  rw [Rat.mul_add]
  generalize (f : Rat) * h = a at *
  generalize (f : Rat) * k = b at *
  generalize wat s u = L
  grind
theorem boil_fire {s w u h : Rat} {f g : Int} (hf : f ≤ g) (hh : 0 ≤ h) : boil s w g u h ≤ boil s w f u h := by
  have k := Rat.mul_nonneg (cast_nn (show 0 ≤ g - f by omega)) hh
  rw [Rat.intCast_sub] at k
  unfold boil
  generalize wat s u = L
  have e : ((g : Rat) - (f : Rat)) * h = (g : Rat) * h - (f : Rat) * h := by grind
  rw [e] at k
  generalize (f : Rat) * h = a at *
  generalize (g : Rat) * h = b at *
  grind
theorem boil_two {s w u h : Rat} {f : Int} : boil (s + s) (w + w) (2 * f) u h = boil s w f u h + boil s w f u h := by
  unfold boil
  have e : wat (s + s) u = wat s u + wat s u := by
    unfold wat
    grind
  rw [e, Rat.intCast_mul]
  have e2 : ((2 : Int) : Rat) * (f : Rat) * h = (f : Rat) * h + (f : Rat) * h := by
    have e3 : ((2 : Int) : Rat) = 2 := rfl
    rw [e3]
    grind
  rw [e2]
  generalize (f : Rat) * h = a at *
  generalize wat s u = L at *
  grind
theorem Sz.div {m n : Nat} {p q : Rat} (h : Sz m p) (k : Sz n q) (hq : q ≠ 0) : Sz (m + n) (p / q) := by
  rw [← rq_div]
  exact sz_rq (Int.mul_ne_zero (den_ne' p) (num_ne hq)) (wide_lt h.1 k.2) (wide_lt h.2 k.1)
theorem rq_divi (r : Rat) (f : Int) : rq r.num (r.den * f) = r / (f : Rat) := by
  have e := rq_div r (f : Rat)
  rw [← e]
  show rq r.num (r.den * f) = rq (r.num * 1) (r.den * f)
  rw [Int.mul_one]
theorem FrQ.dp {K : PySem.W.Frag} {H : Hp} {x : Addr} {q : Rat} (h : FrQ K H x q) : Dp K H (.ref x) (dq q) := .tup h (.cons (.int _) (.cons (.int _) .nil))
theorem JuQ.dp {K : PySem.W.Frag} {H : Hp} {x : Addr} {s w : Rat} (h : JuQ K H x s w) : Dp K H (.ref x) (dj s w) := by
  obtain ⟨a, b, h1, h2, h3⟩ := h
  exact .tup h1 (.cons h2.dp (.cons h3.dp .nil))
theorem eqv_dq (a b : Rat) : PyData.eqv (dq a) (dq b) = decide (a = b) := by
  refine eqv_pair.trans ?_
  rw [decide_eq_decide]
  constructor
  · rintro ⟨h1, h2⟩
    exact Rat.ext h1 (by omega)
  · rintro rfl
    exact ⟨rfl, rfl⟩
theorem OQ.dp {K : PySem.W.Frag} {H : Hp} {v : V} {o : Option Rat} (h : OQ K H v o) : Dp K H v (oq o) := by
  cases o with
  | none => rw [show v = .non from h]; exact .non
  | some q =>
    obtain ⟨x, e1, h1⟩ := h
    rw [e1]
    exact h1.dp
theorem oq_fit (o : Option Rat) : PyData.canLay0 (oq o) = true ∧ PyData.depth (oq o) ≤ 60 := by
  cases o with
  | none => exact ⟨rfl, by decide⟩
  | some q => exact ⟨rfl, by show 1 ≤ 60; decide⟩
/-- when a juice is ready -/
def ready (s w : Rat) (f : Int) (u : Rat) : Option Rat := if s = 0 then none else if wat s u < w then (if f = 0 then none else some ((w - wat s u) / (f : Rat))) else some 0
theorem wat_nn {s u : Rat} (hs : 0 ≤ s) (u0 : 0 < u) (u1 : u < 1) : 0 ≤ wat s u := by
  have k := Rat.mul_nonneg hs (show 0 ≤ 1 - u by grind)
  have h : s ≤ s / u := le_div u0 (by grind)
  unfold wat
  grind
theorem on_way {s w u : Rat} {f : Int} (hs : 0 < s) (u0 : 0 < u) (u1 : u < 1) (hf : 0 < f) (lt : wat s u < w) {t : Rat} (et : t = (w - wat s u) / (f : Rat)) :
    boil s w f u t = wat s u ∧ stren s (wat s u) = some u ∧ 0 < t ∧ ∀ h : Rat, 0 < h → (boil s w f u (t + h) = wat s u ∧ (h ≤ 1 → ∃ q, stren s (boil s w f u (t * h)) = some q ∧ (q = u ↔ h = 1) ∧ ready s (boil s w f u (t * h)) f u = some (t - t * h))) := by
  have f0 := cast_pos hf
  have fne : (f : Rat) ≠ 0 := by grind
  have ft : (f : Rat) * t = w - wat s u := by rw [et]; grind
  have wn := wat_nn (Rat.le_of_lt hs) u0 u1
  have tp : 0 < t := by
    rw [et]
    exact (Rat.lt_div_iff f0).mpr (by grind)
  refine ⟨?_, ?_, tp, fun h hh => ⟨?_, fun h1 => ?_⟩⟩
  · unfold boil
    rw [ft]
    grind
  · have e : s + wat s u = s / u := by
      unfold wat
      grind
    have ne : s / u ≠ 0 := by grind
    unfold stren
    rw [e, if_neg ne]
    congr 1
    grind
  · have k := Rat.mul_pos f0 hh
    unfold boil
    rw [Rat.mul_add, ft]
    grind
  · have d : 0 < w - wat s u := by grind
    have k := Rat.mul_nonneg (Rat.le_of_lt d) (show 0 ≤ 1 - h by grind)
    have e : (f : Rat) * (t * h) = (w - wat s u) * h := by rw [← ft]; grind
    have eb : boil s w f u (t * h) = w - (w - wat s u) * h := by
      unfold boil
      rw [e]
      grind
    have xge : wat s u ≤ w - (w - wat s u) * h := by grind
    have sx : s + (w - (w - wat s u) * h) ≠ 0 := by grind
    rw [eb]
    refine ⟨s / (s + (w - (w - wat s u) * h)), if_neg sx, ⟨fun q => ?_, fun q => ?_⟩, ?_⟩
    · have q2 : s = u * (s + (w - (w - wat s u) * h)) := by grind
      have q3 : wat s u = w - (w - wat s u) * h := by
        unfold wat at *
        grind
      have q4 : (w - wat s u) * (1 - h) = 0 := by grind
      have q5 : 1 - h = 0 := by
        rcases Rat.mul_eq_zero.mp q4 with z | z
        · grind
        · exact z
      grind
    · rw [q]
      have e2 : s + (w - (w - wat s u) * 1) = s / u := by
        unfold wat
        grind
      rw [e2]
      grind
    · unfold ready
      rw [if_neg (by grind)]
      by_cases c : wat s u < w - (w - wat s u) * h
      · rw [if_pos c, if_neg (by omega)]
        congr 1
        rw [et]
        grind
      · rw [if_neg c]
        have q4 : (w - wat s u) * (1 - h) = 0 := by grind
        have q5 : 1 - h = 0 := by
          rcases Rat.mul_eq_zero.mp q4 with z | z
          · grind
          · exact z
        have q6 : h = 1 := by grind
        rw [q6]
        congr 1
        grind
/-- a thing is not among those of a tuple -/
def rNoTup (K : PySem.W.Frag) : R2 := fun x y H Q => ∃ d ds, Dp K H x d ∧ Dp K H y (.tuple ds) ∧ PyData.canLay0 d = true ∧ PyData.canLayAll0 ds = true ∧ PyData.depth d ≤ 60 ∧ Q (.bl (!ds.any fun z => PyData.eqv z d)) H
theorem notTup {X : Cx} {K : PySem.W.Frag} (hK : X.K = K) (room : X.A.units + 64 < cLine) : OpR X (compareOp .NotIn) (rNoTup K) := by
  subst hK
  intro pn s0 σ H x y v1 v2 Q I a1 a2 h
  obtain ⟨d, ds, h1, h2, h3, h4, h5, q⟩ := h
  obtain ⟨as1, r1⟩ := Dp.reads I d x v1 h1 a1
  obtain ⟨as2, r2⟩ := Dp.reads I (.tuple ds) y v2 h2 a2
  exact SeqAt.notIn_tuple_reads r2 r1 h4 h3 (by omega) ⟨.bl _, H, I, rfl, q⟩
/-- a juice in, a juice and a share in, two juices in -/
def sp_j2 (K : PySem.W.Frag) : Sp := fun vs H Q _ => ∃ (x y : Addr) (s w s' w' : Rat) (m n : Nat), vs = [.ref x, .ref y] ∧ JuQ K H x s w ∧ JuQ K H y s' w' ∧ Sz m s ∧ Sz m w ∧ Sz n s' ∧ Sz n w' ∧ m + n ≤ 1900 ∧
  ∀ z H', Same H H' → JuQ K H' z (s + s') (w + w') → Sz (m + n + 1) (s + s') → Sz (m + n + 1) (w + w') → Q (.ref z) H'
def sp_jt (K : PySem.W.Frag) (f : Rat → Rat) : Sp := fun vs H Q _ => ∃ (x y : Addr) (s w t : Rat) (m n : Nat), vs = [.ref x, .ref y] ∧ JuQ K H x s w ∧ FrQ K H y t ∧ Sz m s ∧ Sz m w ∧ Sz n t ∧ m + n ≤ 900 ∧ n ≤ 400 ∧
  ∀ z H', Same H H' → JuQ K H' z (s * f t) (w * f t) → Sz (m + n + 10) (s * f t) → Sz (m + n + 10) (w * f t) → Q (.ref z) H'
def sp_vol (K : PySem.W.Frag) : Sp := fun vs H Q _ => ∃ (x : Addr) (s w : Rat) (m : Nat), vs = [.ref x] ∧ JuQ K H x s w ∧ Sz m s ∧ Sz m w ∧ m ≤ 900 ∧ ∀ z H', Same H H' → FrQ K H' z (s + w) → Sz (m + m + 1) (s + w) → Q (.ref z) H'
def sp_str (K : PySem.W.Frag) : Sp := fun vs H Q _ => ∃ (x : Addr) (s w : Rat) (m : Nat), vs = [.ref x] ∧ JuQ K H x s w ∧ Sz m s ∧ Sz m w ∧ m ≤ 600 ∧ ∀ v H', Same H H' → OQ K H' v (stren s w) → (∀ q, stren s w = some q → Sz (3 * m + 2) q) → Q v H'
end KR
/-! ### len(set(texts)) -/
namespace KR
open PySem PySem.Spec PyProof.Rows L2
/-- each text once, as it first comes -/
def dd : List Str → List Str → List Str
  | acc, [] => acc
  | acc, x :: xs => dd (if x ∈ acc then acc else acc ++ [x]) xs
def dist (xs : List Str) : List Str := dd [] xs
theorem dd_app (ys : List Str) : ∀ (xs acc : List Str), dd acc (xs ++ ys) = dd (dd acc xs) ys
  | [], _ => rfl
  | x :: xs, acc => dd_app ys xs _
theorem dist_snoc (xs : List Str) (x : Str) : dist (xs ++ [x]) = if x ∈ dist xs then dist xs else dist xs ++ [x] := dd_app [x] xs []
theorem mem_dd {y : Str} : ∀ (xs acc : List Str), y ∈ dd acc xs ↔ y ∈ acc ∨ y ∈ xs
  | [], acc => by simp [dd]
  | x :: xs, acc => by
    unfold dd
    rw [mem_dd xs, List.mem_cons]
    by_cases h : x ∈ acc
    · rw [if_pos h]
      constructor
      · rintro (k | k)
        · exact .inl k
        · exact .inr (.inr k)
      · rintro (k | rfl | k)
        · exact .inl k
        · exact .inl h
        · exact .inr k
    · rw [if_neg h, List.mem_append, List.mem_singleton, or_assoc]
theorem mem_dist {y : Str} {xs : List Str} : y ∈ dist xs ↔ y ∈ xs := by
  rw [show dist xs = dd [] xs from rfl, mem_dd] <;> simp
theorem dd_le : ∀ (xs acc : List Str), (dd acc xs).length ≤ acc.length + xs.length
  | [], acc => Nat.le_refl _
  | x :: xs, acc => by
    unfold dd
    refine Nat.le_trans (dd_le xs _) ?_
    split <;> simp <;> omega
theorem dist_le (xs : List Str) : (dist xs).length ≤ xs.length := by
  have h := dd_le xs []
  rw [List.length_nil, Nat.zero_add] at h
  exact h
theorem dd_nodup : ∀ (xs acc : List Str), acc.Nodup → (dd acc xs).Nodup
  | [], _, h => h
  | x :: xs, acc, h => by
    unfold dd
    refine dd_nodup xs _ ?_
    split
    · exact h
    · rename_i c
      rw [List.nodup_append]
      exact ⟨h, by simp, fun a ha b hb => by rw [List.mem_singleton.mp hb]; intro e; exact c (e ▸ ha)⟩
theorem dist_nodup (xs : List Str) : (dist xs).Nodup := dd_nodup xs [] List.nodup_nil
/-- as many as there are texts: no two are alike -/
theorem dd_full : ∀ (xs acc : List Str), (acc ++ xs).Nodup → dd acc xs = acc ++ xs
  | [], acc, _ => by rw [List.append_nil] <;> rfl
  | x :: xs, acc, h => by
    have c : x ∉ acc := fun m => by
      rw [List.nodup_append] at h
      exact h.2.2 x m x List.mem_cons_self rfl
    unfold dd
    rw [if_neg c, dd_full xs (acc ++ [x]) (by rw [List.append_assoc]; exact h), List.append_assoc] <;> rfl
theorem dist_full {xs : List Str} (h : xs.Nodup) : dist xs = xs := dd_full xs [] h
theorem dd_less : ∀ (xs acc : List Str), acc.Nodup → ¬ (acc ++ xs).Nodup → (dd acc xs).length < acc.length + xs.length
  | [], acc, h, k => absurd (by rw [List.append_nil]; exact h) k
  | x :: xs, acc, h, k => by
    unfold dd
    by_cases c : x ∈ acc
    · rw [if_pos c]
      have := dd_le xs acc
      rw [List.length_cons]
      omega
    · rw [if_neg c]
      have e := dd_less xs (acc ++ [x]) (by rw [List.nodup_append]; exact ⟨h, by simp, fun a ha b hb => by rw [List.mem_singleton.mp hb]; intro e; exact c (e ▸ ha)⟩) (by rw [List.append_assoc]; exact k)
      rw [List.length_append, List.length_singleton] at e
      rw [List.length_cons]
      omega
theorem dist_len {xs : List Str} : (dist xs).length = xs.length ↔ xs.Nodup := by
  constructor
  · intro e
    apply Classical.byContradiction
    intro k
    have := dd_less xs [] List.nodup_nil k
    rw [show dd [] xs = dist xs from rfl] at this
    simp at this
    omega
  · intro h
    rw [dist_full h]
section
variable {prog : Program} {w : World} {A : Around} {E : Value → Shared → Prop} {s : Shared}
/-- the set at S holds the first i texts -/
abbrev Holds1 (prog : Program) (w : World) (S : Addr) (xs : List Str) (i : Nat) (h : Heap) : Prop := h.SetOf (PySem.strKind prog w) S (fun k => (dist (xs.take i)).any (· == k)) (dist (xs.take i)).length
theorem holds1_step {S : Addr} {xs : List Str} {i : Nat} {x : Str} {h : Heap} (e : xs[i]? = some x)
    (hs : h.SetOf (PySem.strKind prog w) S (fun k => (dist (xs.take i)).any (· == k) || decide (k = x)) (if (dist (xs.take i)).any (· == x) = true then (dist (xs.take i)).length else (dist (xs.take i)).length + 1)) : Holds1 prog w S xs (i + 1) h := by
  have t : xs.take (i + 1) = xs.take i ++ [x] := by rw [List.take_add_one, e] <;> rfl
  have mem : (dist (xs.take i)).any (· == x) = true ↔ x ∈ dist (xs.take i) := by rw [List.any_eq_true] <;> simp
  refine SetOf_congr hs (fun k => ?_) ?_
  · rw [t, dist_snoc]
    by_cases c : x ∈ dist (xs.take i)
    · rw [if_pos c]
      by_cases kx : k = x
      · subst kx
        rw [mem.mpr c] <;> rfl
      · rw [decide_eq_false kx, Bool.or_false]
    · rw [if_neg c, List.any_append]
      by_cases kx : k = x
      · subst kx
        simp
      · have kx2 : ¬ x = k := fun z => kx z.symm
        simp [kx, kx2]
  · rw [t, dist_snoc]
    by_cases c : x ∈ dist (xs.take i)
    · rw [if_pos c, if_pos (mem.mpr c)]
    · rw [if_neg c, if_neg fun z => c (mem.mp z), List.length_append] <;> rfl
theorem update_texts {R : Result → Shared → Prop} {it S : Addr} {fp wr : List Addr} {G : Array GenState → Array GenState → Prop} {P : Nat → Value → Prop} {St : Nat → Shared → Prop} {xs : List Str} (W : WalksS prog w A.in1 it fp wr G xs.length P St) (hS : S ∉ fp) (hn : xs.length < 4000)
    (val : ∀ i v, P i v → ∃ x t, xs[i]? = some x ∧ v = .str x t) :
    ∀ (k i : Nat) (s : Shared), i + k = xs.length → St i s → Holds1 prog w S xs i s.heap → (∀ s', Moved (S :: wr) G s s' → Holds1 prog w S xs xs.length s'.heap → R (.ok (.ret .none)) s') →
      codeAny (model prog w) A (.builtin "set.update.loop" ⟨[.ref S, .ref it], []⟩) R s := by
  have nw : S ∉ wr := fun z => hS (W.sub _ z)
  have up : ∀ b ∈ wr, b ∈ S :: wr := fun b z => List.mem_cons_of_mem _ z
  have moved : ∀ {j : Nat} {s s' : Shared}, Moved wr G s s' → Holds1 prog w S xs j s.heap → Holds1 prog w S xs j s'.heap := fun {j s s'} m ⟨o, es, ep, t, ho, r⟩ => ⟨o, es, ep, t, m.heap S _ nw ho, r⟩
  intro k
  induction k with
  | zero =>
    intro i s e st hs fin
    obtain rfl : i = xs.length := e
    apply codeAny_builtin (PyProof.Rows.F.entry_set_update_loop)
    rw [Around.under_plainId (PyProof.Rows.F.plain_set_update_loop) _]
    show wpAny (model prog w) A.in1 (pyNext (.ref it) >>= _) _ _ s
    refine wpAny_bind (W.done s _ _ st fun s' m => ?_)
    show wpAny (model prog w) A.in1 (ret Value.none) _ _ s'
    exact wpAny_pure (fin s' (m.mono up) (moved m hs))
  | succ k ih =>
    intro i s e st hs fin
    apply codeAny_builtin (PyProof.Rows.F.entry_set_update_loop)
    rw [Around.under_plainId (PyProof.Rows.F.plain_set_update_loop) _]
    show wpAny (model prog w) A.in1 (pyNext (.ref it) >>= _) _ _ s
    refine wpAny_bind (W.item i s _ _ (by omega) st fun v s' hP st' m => ?_)
    obtain ⟨x, t, hx, rfl⟩ := val i v hP
    have hs' := moved m hs
    show wpAny (model prog w) A.in1 (holding [Value.str x t] (setAdd S (.str x t)) >>= _) _ _ s'
    refine wpAny_bind (wpAny_holding ?_)
    unfold setAdd
    refine wpAny_holding (wpAny_bind ((PySem.strKind prog w).pyHash (k := x) (strKind_is _ _ _ _) ?_))
    have room : (dist (xs.take i)).length + 1 < scanBound := by
      have z1 := dist_le (xs.take i)
      have z2 : (xs.take i).length ≤ xs.length := by rw [List.length_take]; omega
      unfold scanBound
      omega
    refine wpAny_setAddHashed_of (knd := PySem.strKind prog w) (s := { s' with toks := s'.toks + 1 }) (strKind_is _ _ _ _) rfl hs' room fun h' sb new => ?_
    refine wpAny_pure ⟨plainId_quiet (PyProof.Rows.F.plain_set_update_loop) _, ih (i + 1) _ (by omega) (W.frame _ s' _ _ st' (Nat.le_succ _) fun b hb o g => ?_) (holds1_step hx new) fun s'' m2 h2 => ?_⟩
    · rw [sb.2 b fun z : b = S => hS (z ▸ hb)]
      exact g
    · refine fin s'' (Moved.trans W.gtrans ((m.mono up).then_heap (Nat.le_succ _) fun b o hb g => ?_) m2) h2
      rw [sb.2 b fun z : b = S => hb (by rw [z]; exact List.mem_cons_self)]
      exact g
theorem holds1_zero {led : Bool} {S : Addr} {xs : List Str} {h : Heap} (e : h.get? S = some { cls := .type "set", dict := none, data := .set #[] 0 (.fresh 0 0 led) }) : Holds1 prog w S xs 0 h :=
  PyProof.Rows.SetOf_congr ((PyProof.Rows.setObjOf_fresh (knd := PySem.strKind prog w) led).setOf e (by unfold scanBound; omega)) (fun _ => rfl) rfl
set_option maxHeartbeats 8000000 in
/-- set(a list of texts) -/
theorem set_texts {l : Addr} {items : Array Value} {xs : List Str} {Q : Value → Shared → Prop} (calm : A.handled = none) (hl : s.heap.IsList l items) (len : xs.length = items.size) (few : xs.length < 4000) (val : ∀ (i : Nat) (v : Value), items[i]? = some v → ∃ (x : Str) (t : Tok), xs[i]? = some x ∧ v = Value.str x t)
    (want : ∀ (h' : Heap) (tk : Nat), Holds1 prog w s.heap.objs.size xs xs.length h' → (∀ b o, b < s.heap.objs.size → s.heap.get? b = some o → h'.get? b = some o) → Q (.ref s.heap.objs.size) { s with heap := h', toks := tk }) :
    wpAny (model prog w) A (call (.type "set") [.ref l]) Q E s := by
  obtain ⟨c, tl, hmro⟩ := (PySem.F.called_set).mro
  have made := (PySem.F.called_set).made
  have sub := (PySem.F.called_set).sub
  apply wpAny_call
  apply codeAny_of_tree
  show wpAny (model prog w) _ (callAny (.type "set") _) _ _ _
  refine wpAny_pure ⟨Code.quiet_builtin _ (by decide +kernel), codeAny_builtin (PySem.F.entry_type_call) ?_⟩
  rw [Around.under_plain (weight_type_call_type "set" [.ref l] []) rfl]
  have notT := (PySem.F.called_set).notType
  have canC := (PySem.F.called_set).canCreate
  have tcall := PySem.F.typeCall_set_1 (.ref l)
  repeat (any_goals (first | assumption | wp_step))
  generalize hob : (fun led : Bool => ({ cls := .type "set", dict := none, data := .set #[] 0 (.fresh 0 0 led) } : Obj)) = ob
  have obE : ∀ led, ob led = { cls := .type "set", dict := none, data := .set #[] 0 (.fresh 0 0 led) } := fun led => by rw [← hob]
  refine codeAny_mono (code_set_new_1 (.ref l) (E := E) (Q₁ := fun o s1 => ∃ led : Bool, o = .ref s.heap.objs.size ∧ s1 = { s with heap := s.heap.push (ob led) }) fun led => ⟨led, rfl, by rw [obE]⟩) fun r s1 hr => ?_
  match r, hr with
  | .error _, hr => exact hr
  | .ok .next, hr => exact hr.elim
  | .ok .brk, hr => exact hr.elim
  | .ok .cont, hr => exact hr.elim
  | .ok (.ret o), hr =>
    obtain ⟨led, rfl, rfl⟩ := hr
    have atS : (s.heap.push (ob led)).get? s.heap.objs.size = some (ob led) := Heap.get?_push_size _ (by rw [obE] <;> rfl)
    have tyS : Shared.TypeIs { s with heap := s.heap.push (ob led) } (.ref s.heap.objs.size) "set" := ⟨_, atS, by rw [obE]⟩
    have init1 := (PySem.F.called_set).init.lookup
    have init2 := (PySem.F.called_set).init.bind (.ref s.heap.objs.size)
    repeat (any_goals (first | assumption | wp_step))
    refine codeAny_mono (codeAny_call_builtin (R := wants (fun r s2 => r = .none ∧ ∃ h' tk, s2 = { s with heap := h', toks := tk } ∧ Holds1 prog w s.heap.objs.size xs xs.length h' ∧ (∀ b o, b < s.heap.objs.size → s.heap.get? b = some o → h'.get? b = some o)) E)
      (PySem.F.called_set).init.plain (PySem.F.entry_set_init) (check_set_init_1 tyS ?_)) fun r2 s2 hr2 => ?_
    · obtain ⟨⟨ocls, odict, odata, oslots⟩, lo, lc, nl, ld⟩ := hl
      simp only at lc ld
      subst lc ld
      have lo' := Heap.get?_push_of_some (ob led) lo
      have nset := PySem.F.sub_list_set
      have nfro := PySem.F.sub_list_frozenset
      have ndict : (Value.type "list" == Value.type "dict") = false := by decide
      have isl : (s.heap.push (ob led)).IsList l items := ⟨_, lo', rfl, nl, rfl⟩
      have lltS : l < s.heap.objs.size := Heap.lt_size lo
      have obd : (ob led).data = .set #[] 0 (.fresh 0 0 led) := by rw [obE]
      unfold Builtin.«set.__init__» noKeywords Builtin.Frozenset.updateFrom
      generalize held : pyIter = walkOf
      wp_walk
      rw [obd]
      wp_walk
      subst held
      refine wpAny_pyIter_list (items := items) ?_ ?_
      · exact isl
      refine wpAny_bind (m := runValue _) (wpAny_runValue ?_)
      have calm3 : A.in1.in1.in1.handled = none := by simp [calm]
      have szp : (s.heap.push (ob led)).objs.size = s.heap.objs.size + 1 := Heap.size_push ..
      have apart : l ≠ (s.heap.push (ob led)).objs.size := by
        rw [szp]
        exact Nat.ne_of_lt (Nat.lt_succ_of_lt lltS)
      have notin : s.heap.objs.size ∉ [(s.heap.push (ob led)).objs.size, l] := fun z => by
        rcases List.mem_cons.mp z with z | z
        · rw [szp] at z
          exact absurd z (Nat.ne_of_lt (Nat.lt_succ_self _))
        · exact absurd (List.mem_singleton.mp z) (Nat.ne_of_gt lltS)
      have W := (Walks.list (prog := prog) (w := w) calm3 (s.heap.push (ob led)).objs.size l apart items).toS
      rw [← len] at W
      refine update_texts W notin few val xs.length 0 _ (by omega) ⟨⟨_, Heap.get?_push_size _ rfl, rfl, rfl⟩, isl.push _⟩ (holds1_zero (led := led) ?_) fun s' m hs => ?_
      · rw [← obE]
        exact Heap.get?_push_of_some _ atS
      · obtain ⟨h', g', d', tk', os'⟩ := s'
        obtain rfl : g' = s.gens := m.gens
        obtain rfl : d' = s.drawn := m.drawn
        obtain rfl : os' = s.os := m.os
        refine wpAny_pure ?_
        show wpAny (model prog w) _ (ret Value.none) _ _ _
        refine wpAny_pure ⟨rfl, h', tk', rfl, hs, fun b o hb e => m.heap b o (fun z => ?_) (Heap.get?_push_of_some _ (Heap.get?_push_of_some _ e))⟩
        rcases List.mem_cons.mp z with z | z
        · exact absurd z (Nat.ne_of_lt hb)
        · rw [List.mem_singleton.mp z, szp] at hb
          exact absurd hb (Nat.not_lt.mpr (Nat.le_succ _))
    · match r2, hr2 with
      | .error _, hr2 => exact hr2
      | .ok .next, hr2 => exact hr2.elim
      | .ok .brk, hr2 => exact hr2.elim
      | .ok .cont, hr2 => exact hr2.elim
      | .ok (.ret r), hr2 =>
        obtain ⟨rfl, h', tk, rfl, hs, hk⟩ := hr2
        repeat (any_goals (first | assumption | wp_step))
        exact want _ _ hs hk
end
/-- len(set(xs)), xs a list of texts -/
def tLenSetS (K : PySem.W.Frag) (ta : TE) : TE := fun σ H Q => ta σ H fun x H1 => ∃ (l : Addr) (xs : List Str), x = .ref l ∧ SqL K H1 l (xs.map V.str) ∧ xs.length < 4000 ∧ Q (.int ((dist xs).length : Nat)) H1
theorem pe_lenSetS {X : Cx} {K : PySem.W.Frag} (hK : X.K = K) {a : Expr} {ta : TE} {p p2 q pos : Pos} (hg : Gl X "len") (hm : X.mg "len" = none) (hg2 : Gl X "set") (hm2 : X.mg "set" = none) (ha : PE X a ta) (hc : X.calm = true := by rfl)
    (na : starEach [a] X.env = (false, eval a X.env) :: starEach [] X.env := by rfl) : PE X (.Call (.Name "len" p) [.Call (.Name "set" p2) [a] [] q] [] pos) (tLenSetS K ta) := by
  subst hK
  constructor
  intro pins s σ H Q I want
  refine Call_ (ld_blt I hg hm boot_len (PyProof.Rows.callWith_builtin1 (PyProof.Rows.args_cons ?_ rfl) rfl rfl))
  refine Call_ (ld_blt I hg2 hm2 boot_set (PyProof.Rows.callWith_type1 (PyProof.Rows.args_cons (thn (ha.run pins s σ H _ I want) fun v s1 ⟨x, H1, I1, r1, l, xs, ex, hq, few, q1⟩ => PyProof.Rows.args_nil ?_) na) na rfl))
  subst ex
  cases r1
  obtain ⟨its, r, pl, hz⟩ := I1.list hq
  have len : xs.length = its.toArray.size := by rw [List.size_toArray, ← r.length, List.length_map]
  refine set_texts (I1.ok.hd hc) pl.isList len few (fun i v hv => ?_) fun h' tk hs hk => ?_
  · have hv2 : its[i]? = some v := by simpa using hv
    have lt : i < xs.length := by rw [len, List.size_toArray]; exact (List.getElem?_eq_some_iff.mp hv2).1
    have hx : xs[i]? = some xs[i] := List.getElem?_eq_getElem lt
    obtain ⟨u, hu, ru⟩ := r.get (show (xs.map V.str)[i]? = some (.str xs[i]) by rw [List.getElem?_map, hx] <;> rfl)
    rw [hv2] at hu
    cases hu
    obtain ⟨t, e⟩ := (show ∃ t, v = Value.str xs[i] t from ru)
    exact ⟨xs[i], t, hx, e⟩
  · refine PyProof.Rows.args_nil ?_
    unfold Holds1 at hs
    rw [List.take_length] at hs
    obtain ⟨o, es, ep, t, ho, hex, hd, _, _, _, hf, hn⟩ := hs
    have I2 : Inv X pins σ H1 { s1 with heap := h', toks := tk } := I1.kept fun b o e => hk b o (Heap.lt_size e) e
    have le := dist_le xs
    exact call_len_set ho hex hd hf (by rw [hn] <;> omega) ⟨.int (dist xs).length, H1, I2.tok _, ⟨_, by rw [hn]⟩, q1⟩
end KR
/-! ### a < b < c <= d; a row's parts -/
namespace KR
open PySem PySem.Spec PyProof.Rows L2
section
variable {X : Cx} {a b c d : Expr} {ta tb tc td : TE} {pos : Pos}
def tChain3 (r r' r2 : R2) (ta tb tc td : TE) : TE := fun σ H Q => ta σ H fun x H1 => tb σ H1 fun y H2 => r x y H2 fun z H3 => ∃ k, z = .bl k ∧
  (if k = true then tc σ H3 fun u H4 => r' y u H4 fun z H5 => ∃ k, z = .bl k ∧ (if k = true then td σ H5 fun v H6 => r2 u v H6 Q else Q (.bl false) H5) else Q (.bl false) H3)
theorem pe_chain3 {op op' op2 : CmpOp} {r r' r2 : R2} (ho : OpR X (compareOp op) r) (ho' : OpR X (compareOp op') r') (ho2 : OpR X (compareOp op2) r2) (ha : PE X a ta) (hb : PE X b tb) (hc : PE X c tc) (hd : PE X d td)
    (hm : lastMarks [op, op', op2] [b, c, d] = false := by with_unfolding_all rfl) : PE X (.Compare a [op, op', op2] [b, c, d] pos) (tChain3 r r' r2 ta tb tc td) := by
  constructor
  intro pins s σ H Q I h
  refine Compare_chain (thn (ha.run pins s σ H _ I h) fun v s1 ⟨x, H1, I1, r1, q1⟩ => chain_link (thn (hb.run pins s1 σ H1 _ I1 q1) fun u s2 ⟨y, H2, I2, r2', q2⟩ => thn (ho pins s2 σ H2 x y v u _ I2 r1 r2' q2) fun e s3 ⟨z, H3, I3, r3, k, ez, q3⟩ => ?_)) hm
  subst ez
  cases r3
  refine wpAny_truthy_bool ?_
  cases k with
  | false => exact ite_ff ⟨.bl false, H3, I3, rfl, q3⟩
  | true =>
    refine ite_tt (chain_link (thn (hc.run pins s3 σ H3 _ I3 q3) fun u2 s4 ⟨y2, H4, I4, r4, q4⟩ => thn (ho' pins s4 σ H4 y y2 u u2 _ I4 r2' r4 q4) fun e2 s5 ⟨z2, H5, I5, r5, k2, ez2, q5⟩ => ?_))
    subst ez2
    cases r5
    refine wpAny_truthy_bool ?_
    cases k2 with
    | false => exact ite_ff ⟨.bl false, H5, I5, rfl, q5⟩
    | true => exact ite_tt (chain_last (thn (hd.run pins s5 σ H5 _ I5 q5) fun u3 s6 ⟨y3, H6, I6, r6, q6⟩ => ho2 pins s6 σ H6 y2 y3 u2 u3 Q I6 r4 r6 q6))
end
end KR
/-! ### kettles and moulds of a row -/
namespace KR
open PySem PySem.Spec PyProof.Rows L2
/-- two tuples, one behind the other: none of the first, or the second, is empty -/
def rCatTI (K : PySem.W.Frag) : R2 := fun x y H Q => ∃ a b xs ys, x = .ref a ∧ y = .ref b ∧ SqT K H a xs ∧ SqT K H b ys ∧ xs ≠ [] ∧ xs.length + ys.length ≤ sizeLine ∧ ∀ p H', Same H H' → SqT K H' p (xs ++ ys) → Q (.ref p) H'
/-- what is a tuple stays one -/
def TK (K : PySem.W.Frag) (H H' : Hp) : Prop := ∀ b xs, SqT K H b xs → SqT K H' b xs
/-- a NAME -/
structure Nm (x : Str) : Prop where
  lo : 1 ≤ x.length
  hi : x.length ≤ 8
  az : ∀ c ∈ TL.tl x, 97 ≤ c ∧ c ≤ 122
structure KetV (x : Str) (r f t b : Int) : Prop where
  nm : Nm x
  r0 : 1 ≤ r
  r1 : r ≤ 1000000
  f0 : 0 ≤ f
  f1 : f ≤ 10000
  t0 : 0 < t
  tb : t < b
  b1 : b ≤ 60
  cop : Nat.gcd t.natAbs b.natAbs = 1
structure MouV (x : Str) (r t b : Int) : Prop where
  nm : Nm x
  r0 : 1 ≤ r
  r1 : r ≤ 1000000
  t0 : 0 ≤ t
  tb : t < b
  b1 : b ≤ 12
  cop : Nat.gcd t.natAbs b.natAbs = 1
/-- a kettle of this name and data is read at v; a mould -/
def KetAt (K : PySem.W.Frag) (H : Hp) (v : V) (x : Str) (d : PyData) : Prop := ∃ (a m : Addr) (r f t b : Int), v = .ref a ∧ SqT K H a [.str x, .int r, .int f, .ref m] ∧ SqT K H m [.int t, .int b] ∧ KetV x r f t b ∧ d = .tuple [.str x, .int r, .int f, .tuple [.int t, .int b]]
def MouAt (K : PySem.W.Frag) (H : Hp) (v : V) (x : Str) (d : PyData) : Prop := ∃ (a m : Addr) (r t b : Int), v = .ref a ∧ SqT K H a [.str x, .int r, .ref m] ∧ SqT K H m [.int t, .int b] ∧ MouV x r t b ∧ d = .tuple [.str x, .int r, .tuple [.int t, .int b]]
/-- a row of such things -/
structure AllAt (At : V → Str → PyData → Prop) (vs : List V) (ns : List Str) (ds : List PyData) : Prop where
  ln : vs.length = ns.length
  ld : vs.length = ds.length
  at_ : ∀ (i : Nat) (v : V) (x : Str) (d : PyData), vs[i]? = some v → ns[i]? = some x → ds[i]? = some d → At v x d
section
variable {K : PySem.W.Frag} {H H' H2 : Hp} {v : V} {x : Str} {d : PyData} {vs ws : List V} {ns ms : List Str} {ds es : List PyData}
theorem TK.refl : TK K H H := fun _ _ h => h
theorem TK.trans (a : TK K H H') (b : TK K H' H2) : TK K H H2 := fun c xs h => b c xs (a c xs h)
theorem TK.sm (s : Sm H H') : TK K H H' := fun _ _ h => s.tup h
theorem TK.same (s : Same H H') : TK K H H' := fun _ _ h => Same.tup s h
theorem TK.fr {p : Addr} {n : Nat} (B : BoxAt H p n) (s : Fr p H H') : TK K H H' := fun _ _ h => sqT_fr h B s
/-- what is written where a list, an instance stands -/
theorem TK.upd {D : Addr} {o o2 : HO} (h : H D = some o) (n1 : ∀ xs, o ≠ .tup xs) (n2 : ∀ b y, o ≠ .frz b y) : TK K H (upd H D o2) := fun b xs e => by
  rcases e with (e | ⟨q, e⟩) | e
  · exact .inl (.inl (by rw [upd_ne fun z => n1 xs (by rw [z, h] at e; exact Option.some.inj e)]; exact e))
  · exact .inl (.inr ⟨q, by rw [upd_ne fun z => n2 _ _ (by rw [z, h] at e; exact Option.some.inj e)]; exact e⟩)
  · exact .inr e
theorem TK.fs {p : Addr} (h : ∀ xs, H p ≠ some (.tup xs)) (n2 : ∀ b y, H p ≠ some (.frz b y)) (s : Fs p H H') : TK K H H' := fun b xs e => by
  rcases e with (e | ⟨q, e⟩) | e
  · exact .inl (.inl (s.keep _ _ (fun z => h xs (by rw [← z]; exact e)) e nofun))
  · exact .inl (.inr ⟨q, s.keep _ _ (fun z => n2 _ _ (by rw [← z]; exact e)) e nofun⟩)
  · exact .inr e
theorem KetAt.tk (s : TK K H H') (h : KetAt K H v x d) : KetAt K H' v x d := by
  obtain ⟨a, m, r, f, t, b, e, h1, h2, k, z⟩ := h
  exact ⟨a, m, r, f, t, b, e, s _ _ h1, s _ _ h2, k, z⟩
theorem MouAt.tk (s : TK K H H') (h : MouAt K H v x d) : MouAt K H' v x d := by
  obtain ⟨a, m, r, t, b, e, h1, h2, k, z⟩ := h
  exact ⟨a, m, r, t, b, e, s _ _ h1, s _ _ h2, k, z⟩
theorem AllAt.map {A B : V → Str → PyData → Prop} (h : AllAt A vs ns ds) (k : ∀ v x d, A v x d → B v x d) : AllAt B vs ns ds := ⟨h.ln, h.ld, fun i v x d a b c => k v x d (h.at_ i v x d a b c)⟩
theorem AllAt.get {A : V → Str → PyData → Prop} (h : AllAt A vs ns ds) {i : Nat} (e : vs[i]? = some v) : ∃ x d, ns[i]? = some x ∧ ds[i]? = some d ∧ A v x d := by
  have lt := (List.getElem?_eq_some_iff.mp e).1
  have e1 : ns[i]? = some (ns[i]'(by rw [← h.ln]; exact lt)) := List.getElem?_eq_getElem _
  have e2 : ds[i]? = some (ds[i]'(by rw [← h.ld]; exact lt)) := List.getElem?_eq_getElem _
  exact ⟨_, _, e1, e2, h.at_ i v _ _ e e1 e2⟩
theorem AllAt.nil {A : V → Str → PyData → Prop} : AllAt A [] [] [] := ⟨rfl, rfl, fun i v x d h => by simp at h⟩
theorem AllAt.snoc {A : V → Str → PyData → Prop} (h : AllAt A vs ns ds) (k : A v x d) : AllAt A (vs ++ [v]) (ns ++ [x]) (ds ++ [d]) := by
  refine ⟨by rw [List.length_append, List.length_append, h.ln] <;> rfl, by rw [List.length_append, List.length_append, h.ld] <;> rfl, fun i u y e e1 e2 e3 => ?_⟩
  by_cases c : i < vs.length
  · rw [List.getElem?_append_left c] at e1
    rw [List.getElem?_append_left (by rw [← h.ln]; exact c)] at e2
    rw [List.getElem?_append_left (by rw [← h.ld]; exact c)] at e3
    exact h.at_ i u y e e1 e2 e3
  · have hi : i = vs.length := by
      have := (List.getElem?_eq_some_iff.mp e1).1
      rw [List.length_append, List.length_singleton] at this
      omega
    subst hi
    rw [List.getElem?_append_right (Nat.le_refl _), Nat.sub_self] at e1
    rw [List.getElem?_append_right (by rw [h.ln]; exact Nat.le_refl _), h.ln, Nat.sub_self] at e2
    rw [List.getElem?_append_right (by rw [h.ld]; exact Nat.le_refl _), h.ld, Nat.sub_self] at e3
    cases e1
    cases e2
    cases e3
    exact k
/-- how a name can be laid out -/
theorem Nm.lay (h : Nm x) : PyData.canLay0 (.str x) = true := by
  show PyData.strOk x = true
  unfold PyData.strOk
  rw [← Array.all_toList, List.all_eq_true]
  intro c hc
  have := (h.az c hc).2
  exact decide_eq_true (Nat.lt_of_le_of_lt this (by decide))
theorem KetAt.dk (h : KetAt K H v x d) : Dk K H 3 v d := by
  obtain ⟨a, m, r, f, t, b, rfl, h1, h2, k, rfl⟩ := h
  exact DkAll.tup (.cons (.str _ _ k.nm.lay) (.cons (.int _ _) (.cons (.int _ _) (.cons (DkAll.tup (.cons (.int _ _) (.cons (.int _ _) .nil)) h2) .nil)))) h1
theorem MouAt.dk (h : MouAt K H v x d) : Dk K H 3 v d := by
  obtain ⟨a, m, r, t, b, rfl, h1, h2, k, rfl⟩ := h
  exact DkAll.tup (.cons (.str _ _ k.nm.lay) (.cons (.int _ _) (.cons (DkAll.tup (.cons (.int _ _) (.cons (.int _ _) .nil)) h2) .nil))) h1
theorem AllAt.dk (h : AllAt (KetAt K H) vs ns ds) : DkAll K H 3 vs ds := ⟨h.ld, fun i v d e1 e2 => by
  obtain ⟨x, d2, _, e3, k⟩ := h.get e1
  rw [e2] at e3
  cases e3
  exact k.dk⟩
theorem AllAt.dkm (h : AllAt (MouAt K H) vs ns ds) : DkAll K H 3 vs ds := ⟨h.ld, fun i v d e1 e2 => by
  obtain ⟨x, d2, _, e3, k⟩ := h.get e1
  rw [e2] at e3
  cases e3
  exact k.dk⟩
end
/-- a proper part, in lowest terms, keeps its bounds -/
theorem low_box {t b : Int} (h0 : 0 ≤ t) (h1 : t < b) (hb : 0 < b) : 0 ≤ (low t b).1 ∧ (low t b).1 < (low t b).2 ∧ (low t b).2 ≤ b ∧ Nat.gcd (low t b).1.natAbs (low t b).2.natAbs = 1 ∧ (0 < t → 0 < (low t b).1) := by
  obtain ⟨k, e⟩ := low_facts t b (by omega)
  have kp := k.pos
  generalize (low t b).1 = u at *
  generalize (low t b).2 = v at *
  have e1 : t * v = u * b := e
  have u0 : 0 ≤ u := Int.not_lt.mp fun z => by
    have a1 : 0 ≤ t * v := Int.mul_nonneg h0 (by omega)
    have a2 : u * b < 0 := Int.mul_neg_of_neg_of_pos z hb
    omega
  have uv : u < v := Int.not_le.mp fun z => by
    have a1 : t * v < b * v := Int.mul_lt_mul_of_pos_right h1 kp
    have a2 : v * b ≤ u * b := Int.mul_le_mul_of_nonneg_right z (by omega)
    rw [Int.mul_comm v b] at a2
    omega
  refine ⟨u0, uv, ?_, k.cop, fun t0 => ?_⟩
  · have d1 : v.natAbs ∣ u.natAbs * b.natAbs := ⟨t.natAbs, by rw [← Int.natAbs_mul, ← e1, Int.natAbs_mul, Nat.mul_comm]⟩
    have d2 : v.natAbs ∣ b.natAbs := (Nat.Coprime.dvd_of_dvd_mul_left (k := v.natAbs) (by rw [Nat.coprime_comm]; exact k.cop) d1)
    have := Nat.le_of_dvd (by omega) d2
    omega
  · refine Int.not_le.mp fun z => ?_
    have uz : u = 0 := by omega
    rw [uz, Int.zero_mul] at e1
    have a1 : 0 < t * v := Int.mul_pos t0 kp
    omega
theorem op_catTI {X : Cx} {K : PySem.W.Frag} (h : X.K = K) : OpR X (binaryOp .Add) (rCatTI K) := fun pins s σ H x y v u Q I rx ry ⟨a, b, xs, ys, e1, e2, h1, h2, n, z, k⟩ => by
  subst h
  exact op_catT pins s σ H x y v u Q I rx ry ⟨a, b, xs, ys, e1, e2, h1, h2, n, z, fun ye => by subst ye; exact k a H (Same.refl _) (by rw [List.append_nil]; exact h1), fun ye p hp => k p _ (same_new hp) (SqT.of upd_same)⟩
end KR
/-! ### match over a list of texts: `case ["w", n1, .., nk]: body` -/
namespace KR
open PySem PySem.Spec PyProof.Rows L2
section
variable {X : Cx}
/-- names that are captured, and their slots -/
inductive Caps (X : Cx) : List Pattern → List Str → List Nat → Prop
  | nil : Caps X [] [] []
  | cons {ps : List Pattern} {ns : List Str} {is : List Nat} {n : Str} (i : Nat) {pos : Pos} (hi : X.N[i]? = some n) (hl : L2.Loc X.env.scope n) (hf : X.fn n = true ∨ List.lookup n X.env.scope.names = some NameKind.local) (r : Caps X ps ns is) : Caps X (.MatchAs none (some n) pos :: ps) (n :: ns) (i :: is)
def setAll (σ : L2.St) : List Nat → List Str → L2.St
  | i :: is, w :: ws => setAll (σ.set i (some (.str w))) is ws
  | _, _ => σ
theorem caps_len {ps : List Pattern} {ns : List Str} {is : List Nat} (h : Caps X ps ns is) : ps.length = is.length ∧ ns.length = is.length := by
  induction h with
  | nil => exact ⟨rfl, rfl⟩
  | cons _ _ _ _ _ ih => exact ⟨by rw [List.length_cons, List.length_cons, ih.1], by rw [List.length_cons, List.length_cons, ih.2]⟩
theorem caps_star {ps : List Pattern} {ns : List Str} {is : List Nat} (h : Caps X ps ns is) : List.findIdx? (fun x => Pattern.isStar x) ps = none := by
  induction h with
  | nil => rfl
  | cons i hi hl hf r ih =>
    rw [List.findIdx?_cons, ih]
    rfl
theorem caps_each {M : Model} {A : Around} {E : Value → Shared → Prop} {env : Env} {ps : List Pattern} {ns : List Str} {is : List Nat} (h : Caps X ps ns is) : ∀ {xs : List Value} {s : Shared} {Q : Option (List (Str × Value)) → Shared → Prop}, xs.length = is.length → Q (some (ns.zip xs)) s → wpAny M A (matchEach ps env xs) Q E s := by
  induction h with
  | nil =>
    intro xs s Q hl q
    exact wpAny_matchEach_nil q
  | cons i hi hl hf r ih =>
    intro xs s Q hl q
    match xs, hl with
    | x :: xs, hl =>
      refine wpAny_matchEach_cons (wpAny_matchPattern_Capture ?_)
      exact ih (Nat.succ.inj hl) q
theorem caps_bind {ps : List Pattern} {ns : List Str} {is : List Nat} (hN : X.N.Nodup) (h : Caps X ps ns is) : ∀ {xs : List Value} {ws : List Str} {pins : List (Addr × Obj)} {s : Shared} {σ : L2.St} {H : Hp} {Q : Unit → Shared → Prop}, ws.length = is.length → Vals (ws.map V.str) xs → L2.Inv X pins σ H s → (∀ s', L2.Inv X pins (setAll σ is ws) H s' → Q () s') →
    wpAny (model X.prog X.w) X.A (assignInOrder ((ns.zip xs).map fun x => match (motive := Str × Value → Value → Sem Unit) x with | (n, _) => bindName X.env n) ((ns.zip xs).map fun x => x.2)) Q X.xe s := by
  induction h with
  | nil =>
    intro xs ws pins s σ H Q hl hv I q
    exact wpAny_assignInOrder_none (q s (by cases ws <;> exact I))
  | cons i hi hl hf r ih =>
    intro xs ws pins s σ H Q hl2 hv I q
    match ws, xs, hl2, hv with
    | w :: ws, x :: xs, hl2, .cons h1 h2 =>
      refine wpAny_assignInOrder_more (wpAny_bindName (store_ok I hN hi hl h1 (fun s1 I1 => ?_) hf))
      exact ih (Nat.succ.inj hl2) h2 I1 q
    | [], _, hl2, _ => cases hl2
abbrev TC := List Str → TS
structure PM (X : Cx) (cs : List MatchCase) (t : TC) : Prop where
  run : ∀ (pins : List (Addr × Obj)) (s : Shared) (σ : L2.St) (H : Hp) (D : Ends) (a : Addr) (ws : List Str) (first : Bool), L2.Inv X pins σ H s → SqL X.K H a (ws.map V.str) → t ws D σ H →
    wpAny (model X.prog X.w) X.A (matchCases cs X.env (.ref a) first) (SP X pins D) X.xe s
theorem pm_nil : PM X [] (fun _ D σ H => D.nx σ H) := ⟨fun pins s σ H D a ws first I _ q => wpAny_matchCases_nil ⟨σ, H, I, q⟩⟩
def tCaseS (w : Str) (is : List Nat) (tb : TS) (tr : TC) : TC := fun ws D σ H => (∃ vs, ws = w :: vs ∧ vs.length = is.length ∧ tb D (setAll σ is vs) H) ∨ ((∀ vs, ws = w :: vs → vs.length ≠ is.length) ∧ tr ws D σ H)
theorem pm_cons {w : Str} {ps : List Pattern} {ns : List Str} {is : List Nat} {body : List Stmt} {rest : List MatchCase} {tb : TS} {tr : TC} {k : Nat} {p1 p2 pos : Pos} (hc : X.calm = true) (hN : X.N.Nodup) (cap : Caps X ps ns is) (hb : PSs X body tb) (hr : PM X rest tr) :
    PM X (⟨.MatchSequence (.MatchValue (.Constant (.str w) k p1) p2 :: ps) pos, none, body⟩ :: rest) (tCaseS w is tb tr) := by
  refine ⟨fun pins s σ H D a ws first I hl q => ?_⟩
  obtain ⟨its, hv, pl, sz⟩ := I.list hl
  have isl : s.heap.IsList a its.toArray := by
    obtain ⟨o, n, h1, h2, _, h3⟩ := pl
    exact ⟨o, h1, h2, n, h3⟩
  have len : its.length = ws.length := by rw [← hv.length, List.length_map]
  have star : List.findIdx? (fun x => Pattern.isStar x) (.MatchValue (.Constant (.str w) k p1) p2 :: ps) = none := by
    rw [List.findIdx?_cons, caps_star cap]
    rfl
  have s63 : ((its.toArray.size : Nat) : Int) < 2 ^ 63 := by
    rw [List.size_toArray, len]
    rw [List.length_map] at sz
    have : sizeLine < 2 ^ 63 := by decide
    omega
  refine wpAny_matchCases_cons ?_
  have cl := caps_len cap
  by_cases same : ws.length = is.length + 1
  · have same2 : its.toArray.size = (Pattern.MatchValue (.Constant (.str w) k p1) p2 :: ps).length := by
      rw [List.size_toArray, len, same, List.length_cons, cl.1]
    refine matchSeq_list_hit isl s63 same2 ?_ star rfl
    rw [← same2]
    refine W.kun_itemsOf (I.ok.hd hc) isl fun h' ext => ?_
    have I2 : L2.Inv X pins σ H { heap := h', gens := s.gens, drawn := s.drawn, toks := s.toks + 1 + 1, os := s.os } := I.kept fun b u e => ext b u (Nat.ne_of_lt (Heap.lt_size e)) e
    clear s63 same2 isl pl sz
    cases hw0 : ws with
    | nil =>
      rw [hw0] at same
      exact absurd same (by simp)
    | cons w2 vs =>
      subst hw0
      cases hv with
      | cons h1 h2 =>
        rename_i x xs
        have lv : vs.length = is.length := by simpa using same
        have lx : xs.length = is.length := by rw [← lv]; have := h2.length; rw [List.length_map] at this; exact this.symm
        refine wpAny_matchEach_cons (wpAny_matchPattern_Value (thn (pe_str.run pins _ σ H (fun v H' => v = .str w ∧ H' = H) I2 ⟨rfl, rfl⟩) fun u s1 z => ?_))
        obtain ⟨v, H', I3, ru, rfl, rfl⟩ := z
        refine thn (op_eq pins s1 σ H' (.str w2) (.str w) x u (fun v H2 => v = .bl (decide (V.str w2 = V.str w)) ∧ H2 = H') I3 h1 ru ⟨rfl, rfl, rfl⟩) fun c s2 z => ?_
        obtain ⟨v, H2, I4, rc, rfl, rfl⟩ := z
        have ec : c = Value.bool (decide (V.str w2 = V.str w)) := rc
        subst ec
        refine wpAny_truthy_bool ?_
        by_cases hw : w2 = w
        · subst hw
          rw [decide_eq_true rfl]
          refine caps_each cap lx ?_
          refine thn (caps_bind (ns := ns) hN cap (xs := xs) (ws := vs) lv h2 I4 (Q := fun _ s' => L2.Inv X pins (setAll σ is vs) H2 s') (fun s' z => z)) fun _ s5 I5 => ?_
          rcases q with ⟨vs2, e, l2, q⟩ | ⟨no, _⟩
          · cases e
            exact hb.run pins s5 _ H2 D I5 q
          · exact absurd lv (no vs rfl)
        · rw [decide_eq_false (fun z => hw (V.str.inj z))]
          rcases q with ⟨vs2, e, _⟩ | ⟨_, q⟩
          · cases e
            exact absurd rfl hw
          · exact hr.run pins s2 σ H2 D a (w2 :: vs) false I4 hl q
  · refine matchSeq_list_miss isl s63 (by rw [List.size_toArray, len, List.length_cons, cl.1]; exact same) ?_ star rfl
    rcases q with ⟨vs, e, l2, _⟩ | ⟨_, q⟩
    · rw [e, List.length_cons, l2] at same
      exact absurd rfl same
    · exact hr.run pins _ σ H D a ws false (I.tok _) hl q
def tMatch (K : PySem.W.Frag) (te : TE) (t : TC) : TS := fun D σ H => te σ H fun x H1 => ∃ (a : Addr) (ws : List Str), x = .ref a ∧ SqL K H1 a (ws.map V.str) ∧ t ws D σ H1
theorem ps_matchS {K : PySem.W.Frag} {e : Expr} {cs : List MatchCase} {pos : Pos} {te : TE} {t : TC} (hK : X.K = K) (h : PE X e te) (hm : PM X cs t) : PS X (.Match e cs pos) (tMatch K te t) := by
  subst hK
  refine ⟨fun pins s σ H D I q => wpAny_Match (thn (h.run pins s σ H _ I q) fun u s1 z => ?_)⟩
  obtain ⟨v, H1, I1, ru, a, ws, rfl, hl, q⟩ := z
  cases ru
  exact hm.run pins s1 σ H1 D a ws true I1 hl q
end
end KR
/-! ### rows as texts -/
namespace KR
open PySem PySem.Spec PyProof.Rows L2
/-- kettles and moulds as data -/
def KetD (x : Str) (d : PyData) : Prop := ∃ r f t b : Int, KetV x r f t b ∧ d = .tuple [.str x, .int r, .int f, .tuple [.int t, .int b]]
def MouD (x : Str) (d : PyData) : Prop := ∃ r t b : Int, MouV x r t b ∧ d = .tuple [.str x, .int r, .tuple [.int t, .int b]]
theorem KetAt.d {K : PySem.W.Frag} {H : Hp} {v : V} {x : Str} {d : PyData} (h : KetAt K H v x d) : KetD x d := by
  obtain ⟨a, m, r, f, t, b, _, _, _, k, e⟩ := h
  exact ⟨r, f, t, b, k, e⟩
theorem MouAt.d {K : PySem.W.Frag} {H : Hp} {v : V} {x : Str} {d : PyData} (h : MouAt K H v x d) : MouD x d := by
  obtain ⟨a, m, r, t, b, _, _, _, k, e⟩ := h
  exact ⟨r, t, b, k, e⟩
def wordsD : PyData → List Str
  | .tuple [.str x, .int r, .int f, .tuple [.int t, .int b]] => ["kettle", x, S (TL.numL r.natAbs), S (TL.numL f.natAbs), S (fracL t b)]
  | .tuple [.str x, .int r, .tuple [.int t, .int b]] => ["mould", x, S (TL.numL r.natAbs), S (fracL t b)]
  | _ => []
def lineD (d : PyData) : Str := Txt.join " " (wordsD d)
def rowTx (ds : List PyData) : Str := Txt.join "\n" (ds.map lineD)
/-- a word: no blank, no line feed, not long -/
def Wd (y : Str) : Prop := (∀ c ∈ TL.tl y, 33 ≤ c) ∧ y.length ≤ 100
theorem wd_num {n : Nat} (h : n < 10 ^ 40) : Wd (S (TL.numL n)) := ⟨fun c hc => by have := TL.numL_digits n c hc; omega, by rw [S_len]; exact Nat.le_trans (TL.numL_len (by decide) h) (by decide)⟩
theorem wd_frac {t b : Int} (ht : t.natAbs < 10 ^ 40) (hb : b.natAbs < 10 ^ 40) : Wd (S (fracL t b)) := by
  have h1 := TL.numL_len (k := 40) (by decide) ht
  have h2 := TL.numL_len (k := 40) (by decide) hb
  refine ⟨fun c hc => ?_, ?_⟩
  · have hc : c ∈ fracL t b := hc
    unfold fracL at hc
    rcases List.mem_append.mp hc with h | h
    · split at h
      · rw [List.mem_singleton.mp h]
        decide
      · exact absurd h List.not_mem_nil
    · rcases List.mem_append.mp h with h | h
      · have := TL.numL_digits _ c h
        omega
      · split at h
        · exact absurd h List.not_mem_nil
        · rcases List.mem_cons.mp h with h | h
          · rw [h]
            decide
          · have := TL.numL_digits _ c h
            omega
  · rw [S_len]
    unfold fracL
    have h3 : (if t < 0 then [45] else [] : List Nat).length ≤ 1 := by split <;> decide
    have h4 : (if b = 1 then [] else 47 :: TL.numL b.natAbs : List Nat).length ≤ 41 := by
      split
      · exact Nat.zero_le _
      · rw [List.length_cons]
        omega
    rw [List.length_append, List.length_append]
    omega
theorem wd_nm {x : Str} (h : Nm x) : Wd x := ⟨fun c hc => by have := h.az c hc; omega, by have := h.hi; omega⟩
theorem nat40 {n : Nat} (h : n ≤ 1000000) : n < 10 ^ 40 := Nat.lt_of_le_of_lt h (by decide)
theorem wd_kettle : Wd "kettle" := ⟨by decide +kernel, by decide +kernel⟩
theorem wd_mould : Wd "mould" := ⟨by decide +kernel, by decide +kernel⟩
theorem wordsK {x : Str} {d : PyData} (h : KetD x d) : (∀ w ∈ wordsD d, Wd w) ∧ (wordsD d).length ≤ 5 ∧ wordsD d ≠ [] := by
  obtain ⟨r, f, t, b, k, rfl⟩ := h
  have := k.r0; have := k.r1; have := k.f0; have := k.f1; have := k.t0; have := k.tb; have := k.b1
  refine ⟨fun w hw => ?_, Nat.le_refl 5, nofun⟩
  rcases List.mem_cons.mp hw with rfl | hw
  · exact wd_kettle
  rcases List.mem_cons.mp hw with rfl | hw
  · exact wd_nm k.nm
  rcases List.mem_cons.mp hw with rfl | hw
  · exact wd_num (nat40 (by omega))
  rcases List.mem_cons.mp hw with rfl | hw
  · exact wd_num (nat40 (by omega))
  rcases List.mem_cons.mp hw with rfl | hw
  · exact wd_frac (nat40 (by omega)) (nat40 (by omega))
  · exact absurd hw List.not_mem_nil
theorem wordsM {x : Str} {d : PyData} (h : MouD x d) : (∀ w ∈ wordsD d, Wd w) ∧ (wordsD d).length ≤ 5 ∧ wordsD d ≠ [] := by
  obtain ⟨r, t, b, k, rfl⟩ := h
  have := k.r0; have := k.r1; have := k.t0; have := k.tb; have := k.b1
  refine ⟨fun w hw => ?_, by show 4 ≤ 5; decide, nofun⟩
  rcases List.mem_cons.mp hw with rfl | hw
  · exact wd_mould
  rcases List.mem_cons.mp hw with rfl | hw
  · exact wd_nm k.nm
  rcases List.mem_cons.mp hw with rfl | hw
  · exact wd_num (nat40 (by omega))
  rcases List.mem_cons.mp hw with rfl | hw
  · exact wd_frac (nat40 (by omega)) (nat40 (by omega))
  · exact absurd hw List.not_mem_nil
theorem mem_joinL {s : List Nat} {c : Nat} : ∀ {ps : List (List Nat)}, c ∈ TL.joinL s ps → c ∈ s ∨ ∃ p ∈ ps, c ∈ p
  | [], h => absurd h List.not_mem_nil
  | [p], h => .inr ⟨p, List.mem_cons_self, h⟩
  | p :: q :: r, h => by
    have h : c ∈ p ++ s ++ TL.joinL s (q :: r) := by rw [List.append_assoc]; exact h
    rcases List.mem_append.mp h with h | h
    · rcases List.mem_append.mp h with h | h
      · exact .inr ⟨p, List.mem_cons_self, h⟩
      · exact .inl h
    · rcases mem_joinL h with h | ⟨u, hu, h⟩
      · exact .inl h
      · exact .inr ⟨u, List.mem_cons_of_mem _ hu, h⟩
theorem len_joinL {s : List Nat} {m : Nat} : ∀ {ps : List (List Nat)}, (∀ p ∈ ps, p.length ≤ m) → (TL.joinL s ps).length ≤ ps.length * (m + s.length)
  | [], h => Nat.zero_le _
  | [p], h => by
    have := h p List.mem_cons_self
    show p.length ≤ 1 * (m + s.length)
    omega
  | p :: q :: r, h => by
    have h1 := h p List.mem_cons_self
    have h2 := len_joinL (s := s) fun u hu => h u (List.mem_cons_of_mem _ hu)
    show (p ++ (s ++ TL.joinL s (q :: r))).length ≤ ((q :: r).length + 1) * (m + s.length)
    rw [List.length_append, List.length_append, Nat.add_mul]
    omega
theorem lit_blank : TL.tl (" " : Str) = [32] := by decide +kernel
theorem lit_feed : TL.tl ("\n" : Str) = [10] := by decide +kernel
theorem split_words {ws : List Str} (h : ∀ w ∈ ws, Wd w) (ne : ws ≠ []) : Txt.split (Txt.join " " ws) " " = ws := TL.split_join (s := 32) (S := []) lit_blank (by decide +kernel) ne fun p hp hc => by
  have := (h p hp).1 _ hc
  omega
/-- a line: no line feed, not long -/
def Ln (y : Str) : Prop := (∀ c ∈ TL.tl y, 32 ≤ c) ∧ y.length ≤ 505
theorem ln_words {ws : List Str} (h : ∀ w ∈ ws, Wd w) (l : ws.length ≤ 5) : Ln (Txt.join " " ws) := by
  rw [TL.join_eq]
  refine ⟨fun c hc => ?_, ?_⟩
  · rw [TL.tl_join, lit_blank] at hc
    rcases mem_joinL hc with h1 | ⟨p, hp, h1⟩
    · rw [List.mem_singleton.mp h1]
      decide
    · obtain ⟨w, hw, rfl⟩ := List.mem_map.mp hp
      have := (h w hw).1 c h1
      omega
  · rw [TL.len_tl, TL.tl_join, lit_blank]
    have k := len_joinL (s := [32]) (m := 100) (ps := ws.map TL.tl) fun p hp => by
      obtain ⟨w, hw, rfl⟩ := List.mem_map.mp hp
      rw [← TL.len_tl]
      exact (h w hw).2
    rw [List.length_map] at k
    refine Nat.le_trans k ?_
    show ws.length * 101 ≤ 505
    omega
theorem split_lines {ls : List Str} (h : ∀ w ∈ ls, Ln w) (ne : ls ≠ []) : Txt.split (Txt.join "\n" ls) "\n" = ls := TL.split_join (s := 10) (S := []) lit_feed (by decide +kernel) ne fun p hp hc => by
  have := (h p hp).1 _ hc
  omega
theorem len_lines {ls : List Str} (h : ∀ w ∈ ls, Ln w) (l : ls.length ≤ 48) : (Txt.join "\n" ls).length ≤ 24288 := by
  rw [TL.join_eq, TL.len_tl, TL.tl_join, lit_feed]
  have k := len_joinL (s := [10]) (m := 505) (ps := ls.map TL.tl) fun p hp => by
    obtain ⟨w, hw, rfl⟩ := List.mem_map.mp hp
    rw [← TL.len_tl]
    exact (h w hw).2
  rw [List.length_map] at k
  refine Nat.le_trans k ?_
  show ls.length * 506 ≤ 24288
  omega
/-- what a join asks: few and not long -/
theorem sum_le {m : Nat} : ∀ {ls : List Str}, (∀ w ∈ ls, w.length ≤ m) → (ls.map (·.length)).sum ≤ ls.length * m
  | [], _ => Nat.zero_le _
  | w :: r, h => by
    have h1 := h w List.mem_cons_self
    have h2 := sum_le fun u hu => h u (List.mem_cons_of_mem _ hu)
    show w.length + (r.map (·.length)).sum ≤ (r.length + 1) * m
    rw [Nat.add_mul]
    omega
theorem join_fits {m k : Nat} {ls : List Str} (h : ∀ w ∈ ls, w.length ≤ m) (l : ls.length ≤ k) (z : k * (m + 1) ≤ 100000) {y : Str} (hy : y.length = 1) : (ls.map (·.length)).sum + ls.length * y.length ≤ 16777216 := by
  have h1 := sum_le h
  have h2 : ls.length * (m + 1) ≤ k * (m + 1) := Nat.mul_le_mul_right _ l
  rw [hy]
  rw [Nat.mul_add] at h2
  omega
theorem len_blank : (" " : Str).length = 1 := by decide +kernel
theorem len_feed : ("\n" : Str).length = 1 := by decide +kernel
/-- a row as data -/
structure RowD (ns nt : List Str) (ds es : List PyData) : Prop where
  k : ∀ (i : Nat) (x : Str) (d : PyData), ns[i]? = some x → ds[i]? = some d → KetD x d
  m : ∀ (i : Nat) (x : Str) (d : PyData), nt[i]? = some x → es[i]? = some d → MouD x d
  lk : ns.length = ds.length
  lm : nt.length = es.length
  k1 : 1 ≤ ds.length
  k8 : ds.length ≤ 8
  m40 : es.length ≤ 40
  nd : (ns ++ nt).Nodup
theorem RowD.ln {ns nt : List Str} {ds es : List PyData} (h : RowD ns nt ds es) : ∀ w ∈ (ds ++ es).map lineD, Ln w := fun w hw => by
  obtain ⟨d, hd, rfl⟩ := List.mem_map.mp hw
  rcases List.mem_append.mp hd with hd | hd
  · obtain ⟨i, lt, e⟩ := List.getElem_of_mem hd
    have q := wordsK (h.k i (ns[i]'(by rw [h.lk]; exact lt)) d (List.getElem?_eq_getElem _) (by rw [← e]; exact List.getElem?_eq_getElem _))
    exact ln_words q.1 q.2.1
  · obtain ⟨i, lt, e⟩ := List.getElem_of_mem hd
    have q := wordsM (h.m i (nt[i]'(by rw [h.lm]; exact lt)) d (List.getElem?_eq_getElem _) (by rw [← e]; exact List.getElem?_eq_getElem _))
    exact ln_words q.1 q.2.1
theorem rowD_of {K : PySem.W.Frag} {H : Hp} {ks ms : List V} {ns nt : List Str} {ds es : List PyData} (A : AllAt (KetAt K H) ks ns ds) (B : AllAt (MouAt K H) ms nt es) (k1 : 1 ≤ ks.length) (k8 : ks.length ≤ 8) (m40 : ms.length ≤ 40) (nd : (ns ++ nt).Nodup) : RowD ns nt ds es := by
  have a1 := A.ln; have a2 := A.ld; have b1 := B.ln; have b2 := B.ld
  refine ⟨fun i x d e1 e2 => ?_, fun i x d e1 e2 => ?_, by omega, by omega, by omega, by omega, by omega, nd⟩
  · have lt := (List.getElem?_eq_some_iff.mp e1).1
    exact (A.at_ i (ks[i]'(by omega)) x d (List.getElem?_eq_getElem _) e1 e2).d
  · have lt := (List.getElem?_eq_some_iff.mp e1).1
    exact (B.at_ i (ms[i]'(by omega)) x d (List.getElem?_eq_getElem _) e1 e2).d
end KR
/-! ### things of any make beside the box p: tuples of the written part among them, whole numbers of some sixty figures -/
namespace KR
open PySem PySem.Spec PyProof.Rows L2
inductive Dj (K : PySem.W.Frag) (p : Addr) (H : Hp) : Nat → V → PyData → Prop
  | non (n : Nat) : Dj K p H (n + 1) .non .none
  | bl (n : Nat) (b : Bool) : Dj K p H (n + 1) (.bl b) (.bool b)
  | int (n : Nat) (i : Int) (h : i.natAbs < 2 ^ 200) : Dj K p H (n + 1) (.int i) (.int i)
  | str (n : Nat) (x : Str) : Dj K p H (n + 1) (.str x) (.str x)
  | lst {n : Nat} {a : Addr} {xs : List V} {ds : List PyData} : a ≠ p → H a = some (.lst xs) → xs.length = ds.length → xs.length ≤ 100000 → (∀ (i : Nat) (x : V) (d : PyData), xs[i]? = some x → ds[i]? = some d → Dj K p H n x d) → Dj K p H (n + 1) (.ref a) (.list ds)
  | tup {n : Nat} {a : Addr} {xs : List V} {ds : List PyData} : SqT K H a xs → xs.length = ds.length → xs.length ≤ 100000 → (∀ (i : Nat) (x : V) (d : PyData), xs[i]? = some x → ds[i]? = some d → Dj K p H n x d) → Dj K p H (n + 1) (.ref a) (.tuple ds)
variable {K : PySem.W.Frag} {p : Addr} {H H' : Hp} {n m : Nat} {v : V} {d : PyData}
theorem Dj.fr (B : BoxAt H p m) (s : Fr p H H') (h : Dj K p H n v d) : Dj K p H' n v d := by
  induction h with
  | non n => exact .non n
  | bl n b => exact .bl n b
  | int n i h => exact .int n i h
  | str n x => exact .str n x
  | lst h0 h1 h2 h3 _ ih => exact .lst h0 (s _ _ h0 h1) h2 h3 ih
  | tup h1 h2 h3 _ ih => exact .tup (sqT_fr h1 B s) h2 h3 ih
theorem Dj.sm (s : Sm H H') (h : Dj K p H n v d) : Dj K p H' n v d := by
  induction h with
  | non n => exact .non n
  | bl n b => exact .bl n b
  | int n i h => exact .int n i h
  | str n x => exact .str n x
  | lst h0 h1 h2 h3 _ ih => exact .lst h0 (s.lst h1) h2 h3 ih
  | tup h1 h2 h3 _ ih => exact .tup (s.tup h1) h2 h3 ih
theorem Dj.same (s : Same H H') (h : Dj K p H n v d) : Dj K p H' n v d := h.sm (.of s)
theorem Dj.up (h : Dj K p H n v d) : n ≤ m → Dj K p H m v d := by
  intro le
  induction h generalizing m with
  | non n => obtain ⟨k, rfl⟩ : ∃ k, m = k + 1 := ⟨m - 1, by omega⟩; exact .non k
  | bl n b => obtain ⟨k, rfl⟩ : ∃ k, m = k + 1 := ⟨m - 1, by omega⟩; exact .bl k b
  | int n i h => obtain ⟨k, rfl⟩ : ∃ k, m = k + 1 := ⟨m - 1, by omega⟩; exact .int k i h
  | str n x => obtain ⟨k, rfl⟩ : ∃ k, m = k + 1 := ⟨m - 1, by omega⟩; exact .str k x
  | lst h0 h1 h2 h3 _ ih => obtain ⟨k, rfl⟩ : ∃ k, m = k + 1 := ⟨m - 1, by omega⟩; exact .lst h0 h1 h2 h3 fun i x d a b => ih i x d a b (by omega)
  | tup h1 h2 h3 _ ih => obtain ⟨k, rfl⟩ : ∃ k, m = k + 1 := ⟨m - 1, by omega⟩; exact .tup h1 h2 h3 fun i x d a b => ih i x d a b (by omega)
theorem Dj.kinds (h : Dj K p H n v d) : ∃ t, Kinds K H v d t := by
  cases h with
  | non => exact ⟨"NoneType", .base .non, by decide +kernel, by decide +kernel, by decide +kernel, by decide +kernel, by decide +kernel⟩
  | bl _ b => exact ⟨"bool", .base (.bl b), by show _ = some false; decide +kernel, by show _ = some false; decide +kernel, by show _ = some true; decide +kernel, by show _ = some true; decide +kernel, by show _ = some false; decide +kernel⟩
  | int _ i => exact ⟨"int", .base (.int i), by show _ = some false; decide +kernel, by show _ = some false; decide +kernel, by show _ = some true; decide +kernel, by show _ = some false; decide +kernel, by show _ = some false; decide +kernel⟩
  | str _ x => exact ⟨"str", .base (.str x), by show _ = some false; decide +kernel, by show _ = some false; decide +kernel, by show _ = some false; decide +kernel, by show _ = some false; decide +kernel, by show _ = some true; decide +kernel⟩
  | lst _ a1 => exact ⟨"list", .base (.lst a1), by show _ = some false; decide +kernel, by show _ = some true; decide +kernel, by show _ = some false; decide +kernel, by show _ = some false; decide +kernel, by show _ = some false; decide +kernel⟩
  | tup a1 => exact ⟨"tuple", sqT_ty a1, by show _ = some true; decide +kernel, by show _ = some false; decide +kernel, by show _ = some false; decide +kernel, by show _ = some false; decide +kernel, by show _ = some false; decide +kernel⟩
/-- each of a row is such a thing -/
def AllDj (K : PySem.W.Frag) (p : Addr) (H : Hp) (n : Nat) (xs : List V) : Prop := ∀ x ∈ xs, ∃ d, Dj K p H n x d
theorem AllDj.fr {xs : List V} (h : AllDj K p H n xs) (B : BoxAt H p m) (s : Fr p H H') : AllDj K p H' n xs := fun x hx => (h x hx).elim fun d q => ⟨d, q.fr B s⟩
theorem AllDj.same {xs : List V} (h : AllDj K p H n xs) (s : Same H H') : AllDj K p H' n xs := fun x hx => (h x hx).elim fun d q => ⟨d, q.same s⟩
theorem AllDj.nil : AllDj K p H n [] := fun x hx => absurd hx List.not_mem_nil
theorem AllDj.cons {x : V} {xs : List V} (h : ∃ d, Dj K p H n x d) (t : AllDj K p H n xs) : AllDj K p H n (x :: xs) := fun y hy => by
  rcases List.mem_cons.mp hy with e | e
  · rw [e]
    exact h
  · exact t y e
theorem AllDj.append {xs ys : List V} (h : AllDj K p H n xs) (t : AllDj K p H n ys) : AllDj K p H n (xs ++ ys) := fun y hy => (List.mem_append.mp hy).elim (h y) (t y)
theorem AllDj.pick : ∀ {xs : List V}, AllDj K p H n xs → ∃ ds : List PyData, xs.length = ds.length ∧ ∀ (i : Nat) (x : V) (d : PyData), xs[i]? = some x → ds[i]? = some d → Dj K p H n x d
  | [], _ => ⟨[], rfl, fun i x d h => by simp at h⟩
  | x :: xs, h => by
    obtain ⟨d, q⟩ := h x List.mem_cons_self
    obtain ⟨ds, e, r⟩ := AllDj.pick (xs := xs) fun y hy => h y (List.mem_cons_of_mem _ hy)
    refine ⟨d :: ds, by rw [List.length_cons, List.length_cons, e], fun i y c h1 h2 => ?_⟩
    match i, h1, h2 with
    | 0, h1, h2 => cases h1; cases h2; exact q
    | i + 1, h1, h2 => exact r i y c h1 h2
theorem AllDj.tup {xs : List V} {a : Addr} (h : AllDj K p H n xs) (e : SqT K H a xs) (z : Nat.ble xs.length 100000 = true := by rfl) : ∃ d, Dj K p H (n + 1) (.ref a) d := by
  obtain ⟨ds, l, r⟩ := h.pick
  exact ⟨_, .tup e l (Nat.le_of_ble_eq_true z) r⟩
theorem AllDj.lst {xs : List V} {a : Addr} (h : AllDj K p H n xs) (ne : a ≠ p) (e : H a = some (.lst xs)) (z : Nat.ble xs.length 100000 = true := by rfl) : ∃ d, Dj K p H (n + 1) (.ref a) d := by
  obtain ⟨ds, l, r⟩ := h.pick
  exact ⟨_, .lst ne e l (Nat.le_of_ble_eq_true z) r⟩
theorem djI (i : Int) (h : i.natAbs < 2 ^ 200 := by decide) : ∃ d, Dj K p H (n + 1) (.int i) d := ⟨_, .int n i h⟩
theorem djB (b : Bool) : ∃ d, Dj K p H (n + 1) (.bl b) d := ⟨_, .bl n b⟩
theorem djS (x : Str) : ∃ d, Dj K p H (n + 1) (.str x) d := ⟨_, .str n x⟩
theorem djN : ∃ d, Dj K p H (n + 1) .non d := ⟨_, .non n⟩
theorem AllDj.one {x : V} (h : ∃ d, Dj K p H n x d) (le : n ≤ m := by omega) : AllDj K p H m [x] := .cons (h.elim fun d q => ⟨d, q.up le⟩) .nil
theorem AllDj.two {x y : V} (h : ∃ d, Dj K p H n x d) (k : ∃ d, Dj K p H n y d) : AllDj K p H n [x, y] := .cons h (.cons k .nil)
theorem dj_up (h : ∃ d, Dj K p H n v d) (le : n ≤ m := by omega) : ∃ d, Dj K p H m v d := h.elim fun d q => ⟨d, q.up le⟩
theorem dj_fr (h : ∃ d, Dj K p H n v d) (B : BoxAt H p m) (s : Fr p H H') : ∃ d, Dj K p H' n v d := h.elim fun d q => ⟨d, q.fr B s⟩
theorem dj_same (h : ∃ d, Dj K p H n v d) (s : Same H H') : ∃ d, Dj K p H' n v d := h.elim fun d q => ⟨d, q.same s⟩
theorem FrQ.dj {x : Addr} {q : Rat} (h : FrQ K H x q) (z : Sz 200 q) : ∃ d, Dj K p H 2 (.ref x) d := (AllDj.two (djI (n := 0) _ z.1) (djI _ z.2)).tup h
theorem FrQ.djx {x : Addr} {q : Rat} (h : FrQ K H x q) (z : Sz 200 q) : Dj K p H 2 (.ref x) (dq q) := .tup h rfl (by show 2 ≤ 100000; decide) fun i u c hu hc => match i, hu, hc with
  | 0, hu, hc => by cases hu; cases hc; exact .int 0 _ z.1
  | 1, hu, hc => by cases hu; cases hc; exact .int 0 _ z.2
  | i + 2, hu, _ => by simp at hu
theorem JuQ.djx {x : Addr} {s w : Rat} (h : JuQ K H x s w) (zs : Sz 200 s) (zw : Sz 200 w) : Dj K p H 3 (.ref x) (dj s w) := by
  obtain ⟨a, b, h1, h2, h3⟩ := h
  exact .tup h1 rfl (by show 2 ≤ 100000; decide) fun i u c hu hc => match i, hu, hc with
    | 0, hu, hc => by cases hu; cases hc; exact h2.djx zs
    | 1, hu, hc => by cases hu; cases hc; exact h3.djx zw
    | i + 2, hu, _ => by simp at hu
theorem two_bools (a b : Bool) : (PyData.shown (.list [.bool a, .bool b])).length ≤ sizeLine := by
  refine Nat.le_trans ?_ (by decide : 64 ≤ sizeLine)
  cases a <;> cases b <;> decide +kernel
theorem dj_num (h : Dj K p H n v d) (k : isNumD d = true) : ∃ i, d = .int i ∧ v = .int i ∧ i.natAbs < 2 ^ 200 := by
  cases h with
  | int _ i h => exact ⟨i, rfl, rfl, h⟩
  | non => cases k
  | bl => cases k
  | str => cases k
  | lst => cases k
  | tup => cases k
/-- a fraction not below 0; a juice -/
def isFracN : PyData → Bool
  | .tuple [.int t, .int b] => isFracD (.tuple [.int t, .int b]) && decide (0 ≤ t)
  | _ => false
def isJuiceD : PyData → Bool
  | .tuple ds => decide (ds.length = 2) && ds.all isFracN
  | _ => false
theorem fracD_form {d : PyData} (h : isFracD d = true) : ∃ t b : Int, d = .tuple [.int t, .int b] ∧ 0 < b ∧ Nat.gcd t.natAbs b.natAbs = 1 := by
  unfold isFracD at h
  split at h
  · rename_i t b
    rw [Bool.and_eq_true] at h
    exact ⟨t, b, rfl, of_decide_eq_true h.1, of_decide_eq_true h.2⟩
  · cases h
theorem fracN_no {d : PyData} (h : isFracD d = false) : isFracN d = false := by
  unfold isFracN
  split
  · rw [h] <;> rfl
  · rfl
theorem dj_frac (h : Dj K p H n v d) (k : isFracD d = true) : ∃ (a : Addr) (t b : Int), v = .ref a ∧ d = .tuple [.int t, .int b] ∧ SqT K H a [.int t, .int b] := by
  obtain ⟨t, b, rfl, _⟩ := fracD_form k
  cases h with
  | tup h1 h2 h3 h4 =>
    rename_i n a xs
    match xs, h2, h1, h4 with
    | [x, y], _, h1, h4 =>
      have X := h4 0 x _ rfl rfl
      have Y := h4 1 y _ rfl rfl
      cases X
      cases Y
      exact ⟨a, t, b, rfl, rfl, h1⟩
/-- the data of a fraction that is read -/
theorem isFracN_rat {q : Rat} (h : 0 ≤ q) : isFracN (dq q) = true := by
  show (decide ((0 : Int) < (q.den : Int)) && decide (Nat.gcd q.num.natAbs (q.den : Int).natAbs = 1) && decide (0 ≤ q.num)) = true
  rw [decide_eq_true (rat_low q).pos, decide_eq_true (rat_low q).cop, decide_eq_true (num_nn.mpr h)] <;> rfl
theorem isJuiceD_rat {s w : Rat} (hs : 0 ≤ s) (hw : 0 ≤ w) : isJuiceD (dj s w) = true := by
  show (decide (([dq s, dq w] : List PyData).length = 2) && (isFracN (dq s) && (isFracN (dq w) && true))) = true
  rw [isFracN_rat hs, isFracN_rat hw] <;> rfl
theorem rq_rest (t : Rat) : rq ((t.den : Int) - t.num) t.den = 1 - t := by
  have e := rq_sub 1 t
  rw [← e]
  show _ = rq (1 * (t.den : Int) - t.num * 1) (1 * (t.den : Int))
  rw [Int.one_mul, Int.mul_one]
end KR
/-! ### kettles and moulds that may be none: tuples of any parts -/
namespace KR
open PySem PySem.Spec PyProof.Rows L2
/-- a part: a text, a number, None, a pair of numbers -/
inductive Pt
  | s (x : Str)
  | i (n : Int)
  | o
  | f (t b : Int)
def Pt.d : Pt → PyData
  | .s x => .str x
  | .i n => .int n
  | .o => .none
  | .f t b => .tuple [.int t, .int b]
def PtAt (K : PySem.W.Frag) (H : Hp) (v : V) : Pt → Prop
  | .s x => v = .str x ∧ x.length ≤ 100000
  | .i n => v = .int n ∧ n.natAbs < 2 ^ 200
  | .o => v = .non
  | .f t b => (∃ m, v = .ref m ∧ SqT K H m [.int t, .int b]) ∧ t.natAbs < 2 ^ 200 ∧ b.natAbs < 2 ^ 200
/-- its text can be laid out -/
def Pt.lay : Pt → Prop
  | .s x => PyData.canLay0 (.str x) = true
  | _ => True
theorem len4 {α : Type} {l : List α} (h : l.length = 4) : ∃ a b c d, l = [a, b, c, d] := by
  match l, h with
  | [a, b, c, d], _ => exact ⟨a, b, c, d, rfl⟩
theorem len3 {α : Type} {l : List α} (h : l.length = 3) : ∃ a b c, l = [a, b, c] := by
  match l, h with
  | [a, b, c], _ => exact ⟨a, b, c, rfl⟩
/-- parts at the items of a list -/
structure PtsAt (K : PySem.W.Frag) (H : Hp) (vs : List V) (ps : List Pt) : Prop where
  len : vs.length = ps.length
  at_ : ∀ (i : Nat) (v : V) (p : Pt), vs[i]? = some v → ps[i]? = some p → PtAt K H v p
/-- a thing: a tuple of parts -/
def ThAt (K : PySem.W.Frag) (H : Hp) (v : V) (ps : List Pt) : Prop := ∃ (a : Addr) (vs : List V), v = .ref a ∧ SqT K H a vs ∧ PtsAt K H vs ps ∧ ps.length ≤ 1000
structure ThsAt (K : PySem.W.Frag) (H : Hp) (vs : List V) (pss : List (List Pt)) : Prop where
  len : vs.length = pss.length
  at_ : ∀ (i : Nat) (v : V) (ps : List Pt), vs[i]? = some v → pss[i]? = some ps → ThAt K H v ps
instance (x : Str) : Decidable (1 ≤ x.length ∧ x.length ≤ 8 ∧ ∀ c ∈ TL.tl x, 97 ≤ c ∧ c ≤ 122) := inferInstance
def nameB : Pt → Bool
  | .s x => decide (1 ≤ x.length ∧ x.length ≤ 8 ∧ ∀ c ∈ TL.tl x, 97 ≤ c ∧ c ≤ 122)
  | _ => false
def numB (l m : Int) : Pt → Bool
  | .i n => decide (l ≤ n) && decide (n ≤ m)
  | _ => false
def fracB (t b : Int) : Bool := decide (0 < b) && decide (Nat.gcd t.natAbs b.natAbs = 1)
def markB : Pt → Bool
  | .f t b => fracB t b && (decide (0 < t) && decide (t < b) && decide (b ≤ 60))
  | _ => false
def dripB : Pt → Bool
  | .f t b => fracB t b && (decide (0 ≤ t) && decide (t < b) && decide (b ≤ 12))
  | _ => false
def kettleB : List Pt → Bool
  | [x, r, f, m] => nameB x && numB 1 1000000 r && numB 0 10000 f && markB m
  | _ => false
def mouldB : List Pt → Bool
  | [x, r, m] => nameB x && numB 1 1000000 r && dripB m
  | _ => false
/-- its name, where it has one -/
def nmO : List Pt → Str
  | .s x :: _ => x
  | _ => ""
def canK (pss : List (List Pt)) : Bool := decide (1 ≤ pss.length) && decide (pss.length ≤ 8) && pss.all kettleB && decide ((pss.map nmO).Nodup)
def canM (pss kss : List (List Pt)) : Bool := decide (pss.length ≤ 40) && pss.all mouldB && decide ((kss.map nmO ++ pss.map nmO).Nodup)
theorem nameB_nm {x : Str} (h : nameB (.s x) = true) : Nm x := by
  have := of_decide_eq_true h
  exact ⟨this.1, this.2.1, this.2.2⟩
theorem nm_nameB {x : Str} (h : Nm x) : nameB (.s x) = true := decide_eq_true ⟨h.lo, h.hi, h.az⟩
theorem nameB_s {p : Pt} (h : nameB p = true) : ∃ x, p = .s x ∧ Nm x := by
  cases p with
  | s x => exact ⟨x, rfl, nameB_nm h⟩
  | i n => cases h
  | o => cases h
  | f t b => cases h
theorem numB_i {l m : Int} {p : Pt} (h : numB l m p = true) : ∃ n, p = .i n ∧ l ≤ n ∧ n ≤ m := by
  cases p with
  | i n =>
    have h2 := Bool.and_eq_true_iff.mp h
    exact ⟨n, rfl, of_decide_eq_true h2.1, of_decide_eq_true h2.2⟩
  | s x => cases h
  | o => cases h
  | f t b => cases h
theorem kettleB_v {ps : List Pt} (h : kettleB ps = true) : ∃ x r f t b, ps = [.s x, .i r, .i f, .f t b] ∧ KetV x r f t b := by
  match ps, h with
  | [x, r, f, m], h =>
    have h1 := Bool.and_eq_true_iff.mp h
    have h2 := Bool.and_eq_true_iff.mp h1.1
    have h3 := Bool.and_eq_true_iff.mp h2.1
    obtain ⟨y, rfl, ny⟩ := nameB_s h3.1
    obtain ⟨n, rfl, r0, r1⟩ := numB_i h3.2
    obtain ⟨g, rfl, f0, f1⟩ := numB_i h2.2
    have hm := h1.2
    cases m with
    | f t b =>
      have k1 := Bool.and_eq_true_iff.mp hm
      have k2 := Bool.and_eq_true_iff.mp k1.2
      have k3 := Bool.and_eq_true_iff.mp k2.1
      have k4 := Bool.and_eq_true_iff.mp k1.1
      exact ⟨y, n, g, t, b, rfl, ny, r0, r1, f0, f1, of_decide_eq_true k3.1, of_decide_eq_true k3.2, of_decide_eq_true k2.2, of_decide_eq_true k4.2⟩
    | s x => cases hm
    | i n => cases hm
    | o => cases hm
theorem mouldB_v {ps : List Pt} (h : mouldB ps = true) : ∃ x r t b, ps = [.s x, .i r, .f t b] ∧ MouV x r t b := by
  match ps, h with
  | [x, r, m], h =>
    have h1 := Bool.and_eq_true_iff.mp h
    have h3 := Bool.and_eq_true_iff.mp h1.1
    obtain ⟨y, rfl, ny⟩ := nameB_s h3.1
    obtain ⟨n, rfl, r0, r1⟩ := numB_i h3.2
    have hm := h1.2
    cases m with
    | f t b =>
      have k1 := Bool.and_eq_true_iff.mp hm
      have k2 := Bool.and_eq_true_iff.mp k1.2
      have k3 := Bool.and_eq_true_iff.mp k2.1
      have k4 := Bool.and_eq_true_iff.mp k1.1
      exact ⟨y, n, t, b, rfl, ny, r0, r1, of_decide_eq_true k3.1, of_decide_eq_true k3.2, of_decide_eq_true k2.2, of_decide_eq_true k4.2⟩
    | s x => cases hm
    | i n => cases hm
    | o => cases hm
section
variable {K : PySem.W.Frag} {H H' : Hp} {v : V} {p : Pt} {ps qs : List Pt} {vs ws : List V} {pss qss : List (List Pt)}
theorem PtAt.tk (s : TK K H H') (h : PtAt K H v p) : PtAt K H' v p := by
  cases p with
  | s x => exact h
  | i n => exact h
  | o => exact h
  | f t b => exact ⟨h.1.elim fun m q => ⟨m, q.1, s _ _ q.2⟩, h.2⟩
theorem PtsAt.tk (s : TK K H H') (h : PtsAt K H vs ps) : PtsAt K H' vs ps := ⟨h.len, fun i v p a b => (h.at_ i v p a b).tk s⟩
theorem ThAt.tk (s : TK K H H') (h : ThAt K H v ps) : ThAt K H' v ps := by
  obtain ⟨a, vs, e, h1, h2, l⟩ := h
  exact ⟨a, vs, e, s _ _ h1, h2.tk s, l⟩
theorem ThsAt.tk (s : TK K H H') (h : ThsAt K H vs pss) : ThsAt K H' vs pss := ⟨h.len, fun i v p a b => (h.at_ i v p a b).tk s⟩
theorem PtAt.dj {q : Addr} (h : PtAt K H v p) : Dj K q H 2 v p.d := by
  cases p with
  | s x =>
    obtain ⟨rfl, _⟩ : v = .str x ∧ _ := h
    exact .str 1 x
  | i n =>
    obtain ⟨rfl, b⟩ : v = .int n ∧ _ := h
    exact .int 1 n b
  | o =>
    obtain rfl : v = .non := h
    exact .non 1
  | f t b =>
    obtain ⟨⟨m, rfl, h⟩, z1, z2⟩ := h
    exact .tup h rfl (by show 2 ≤ 100000; decide) fun i u c hu hc => match i, hu, hc with
      | 0, hu, hc => by cases hu; cases hc; exact .int 0 _ z1
      | 1, hu, hc => by cases hu; cases hc; exact .int 0 _ z2
      | i + 2, hu, _ => by simp at hu
theorem PtsAt.get {i : Nat} (h : PtsAt K H vs ps) (e : vs[i]? = some v) : ∃ p, ps[i]? = some p ∧ PtAt K H v p := by
  have lt := (List.getElem?_eq_some_iff.mp e).1
  have e2 : ps[i]? = some (ps[i]'(by rw [← h.len]; exact lt)) := List.getElem?_eq_getElem _
  exact ⟨_, e2, h.at_ i v _ e e2⟩
theorem ThsAt.get {i : Nat} (h : ThsAt K H vs pss) (e : vs[i]? = some v) : ∃ ps, pss[i]? = some ps ∧ ThAt K H v ps := by
  have lt := (List.getElem?_eq_some_iff.mp e).1
  have e2 : pss[i]? = some (pss[i]'(by rw [← h.len]; exact lt)) := List.getElem?_eq_getElem _
  exact ⟨_, e2, h.at_ i v _ e e2⟩
theorem PtsAt.nil : PtsAt K H [] [] := ⟨rfl, fun i v p e => by simp at e⟩
theorem PtsAt.cons (h : PtAt K H v p) (t : PtsAt K H vs ps) : PtsAt K H (v :: vs) (p :: ps) := ⟨congrArg Nat.succ t.len, fun i u q e1 e2 => match i, e1, e2 with
  | 0, e1, e2 => by cases e1; cases e2; exact h
  | i + 1, e1, e2 => t.at_ i u q e1 e2⟩
theorem PtsAt.cat (h : PtsAt K H vs ps) (k : PtsAt K H ws qs) : PtsAt K H (vs ++ ws) (ps ++ qs) := by
  refine ⟨by rw [List.length_append, List.length_append, h.len, k.len], fun i v x e1 e2 => ?_⟩
  by_cases c : i < vs.length
  · rw [List.getElem?_append_left c] at e1
    rw [List.getElem?_append_left (by rw [← h.len]; exact c)] at e2
    exact h.at_ i v x e1 e2
  · rw [List.getElem?_append_right (by omega)] at e1
    rw [List.getElem?_append_right (by have := h.len; omega), ← h.len] at e2
    exact k.at_ _ v x e1 e2
theorem get_of_take {α : Type} {l : List α} {n i : Nat} {x : α} (e : (l.take n)[i]? = some x) : l[i]? = some x := by
  have lt := (List.getElem?_eq_some_iff.mp e).1
  rw [List.length_take] at lt
  rw [List.getElem?_take_of_lt (by omega)] at e
  exact e
theorem PtsAt.take (h : PtsAt K H vs ps) (n : Nat) : PtsAt K H (vs.take n) (ps.take n) := ⟨by rw [List.length_take, List.length_take, h.len], fun i v p e1 e2 => h.at_ i v p (get_of_take e1) (get_of_take e2)⟩
theorem PtsAt.drop (h : PtsAt K H vs ps) (n : Nat) : PtsAt K H (vs.drop n) (ps.drop n) := ⟨by rw [List.length_drop, List.length_drop, h.len], fun i v p e1 e2 => h.at_ (n + i) v p (by rw [← List.getElem?_drop]; exact e1) (by rw [← List.getElem?_drop]; exact e2)⟩
theorem ThsAt.nil : ThsAt K H [] [] := ⟨rfl, fun i v p e => by simp at e⟩
theorem ThsAt.cons (h : ThAt K H v ps) (t : ThsAt K H vs pss) : ThsAt K H (v :: vs) (ps :: pss) := ⟨congrArg Nat.succ t.len, fun i u q e1 e2 => match i, e1, e2 with
  | 0, e1, e2 => by cases e1; cases e2; exact h
  | i + 1, e1, e2 => t.at_ i u q e1 e2⟩
theorem ThsAt.cat (h : ThsAt K H vs pss) (k : ThsAt K H ws qss) : ThsAt K H (vs ++ ws) (pss ++ qss) := by
  refine ⟨by rw [List.length_append, List.length_append, h.len, k.len], fun i v x e1 e2 => ?_⟩
  by_cases c : i < vs.length
  · rw [List.getElem?_append_left c] at e1
    rw [List.getElem?_append_left (by rw [← h.len]; exact c)] at e2
    exact h.at_ i v x e1 e2
  · rw [List.getElem?_append_right (by omega)] at e1
    rw [List.getElem?_append_right (by have := h.len; omega), ← h.len] at e2
    exact k.at_ _ v x e1 e2
theorem ThsAt.take (h : ThsAt K H vs pss) (n : Nat) : ThsAt K H (vs.take n) (pss.take n) := ⟨by rw [List.length_take, List.length_take, h.len], fun i v p e1 e2 => h.at_ i v p (get_of_take e1) (get_of_take e2)⟩
theorem ThsAt.drop (h : ThsAt K H vs pss) (n : Nat) : ThsAt K H (vs.drop n) (pss.drop n) := ⟨by rw [List.length_drop, List.length_drop, h.len], fun i v p e1 e2 => h.at_ (n + i) v p (by rw [← List.getElem?_drop]; exact e1) (by rw [← List.getElem?_drop]; exact e2)⟩
/-- what is a kettle, is one -/
theorem ThAt.ket (h : ThAt K H v ps) (k : kettleB ps = true) : ∃ x d, KetAt K H v x d ∧ nmO ps = x ∧ ∃ a zs, v = .ref a ∧ SqT K H a (.str x :: zs) := by
  obtain ⟨a, vs, rfl, h1, h2, _⟩ := h
  obtain ⟨x, r, f, t, b, rfl, kv⟩ := kettleB_v k
  match vs, h2.len, h1, h2 with
  | [v1, v2, v3, v4], _, h1, h2 =>
    obtain ⟨rfl, _⟩ : v1 = .str x ∧ _ := h2.at_ 0 v1 _ rfl rfl
    obtain ⟨rfl, _⟩ : v2 = .int r ∧ _ := h2.at_ 1 v2 _ rfl rfl
    obtain ⟨rfl, _⟩ : v3 = .int f ∧ _ := h2.at_ 2 v3 _ rfl rfl
    obtain ⟨⟨m, rfl, hm⟩, _⟩ : (∃ m, v4 = .ref m ∧ SqT K H m [.int t, .int b]) ∧ _ := h2.at_ 3 v4 _ rfl rfl
    exact ⟨x, _, ⟨a, m, r, f, t, b, rfl, h1, hm, kv, rfl⟩, rfl, a, _, rfl, h1⟩
theorem ThAt.mou (h : ThAt K H v ps) (k : mouldB ps = true) : ∃ x d, MouAt K H v x d ∧ nmO ps = x ∧ ∃ a zs, v = .ref a ∧ SqT K H a (.str x :: zs) := by
  obtain ⟨a, vs, rfl, h1, h2, _⟩ := h
  obtain ⟨x, r, t, b, rfl, kv⟩ := mouldB_v k
  match vs, h2.len, h1, h2 with
  | [v1, v2, v4], _, h1, h2 =>
    obtain ⟨rfl, _⟩ : v1 = .str x ∧ _ := h2.at_ 0 v1 _ rfl rfl
    obtain ⟨rfl, _⟩ : v2 = .int r ∧ _ := h2.at_ 1 v2 _ rfl rfl
    obtain ⟨⟨m, rfl, hm⟩, _⟩ : (∃ m, v4 = .ref m ∧ SqT K H m [.int t, .int b]) ∧ _ := h2.at_ 2 v4 _ rfl rfl
    exact ⟨x, _, ⟨a, m, r, t, b, rfl, h1, hm, kv, rfl⟩, rfl, a, _, rfl, h1⟩
/-- as data -/
theorem PtAt.dk (h : PtAt K H v p) (l : p.lay) : Dk K H 2 v p.d := by
  cases p with
  | s x =>
    obtain ⟨rfl, _⟩ : v = .str x ∧ _ := h
    exact .str 1 x l
  | i n =>
    obtain ⟨rfl, _⟩ : v = .int n ∧ _ := h
    exact .int 1 n
  | o =>
    obtain rfl : v = .non := h
    exact .non 1
  | f t b =>
    obtain ⟨⟨m, rfl, h⟩, _⟩ := h
    exact DkAll.tup (.cons (.int _ _) (.cons (.int _ _) .nil)) h
theorem PtsAt.dk (h : PtsAt K H vs ps) (l : ∀ p ∈ ps, p.lay) : DkAll K H 2 vs (ps.map Pt.d) := ⟨by rw [List.length_map]; exact h.len, fun i v d e1 e2 => by
  rw [List.getElem?_map] at e2
  obtain ⟨p, e3, k⟩ := h.get e1
  rw [e3] at e2
  obtain rfl : p.d = d := Option.some.inj e2
  exact k.dk (l p (List.mem_of_getElem? e3))⟩
def thD (ps : List Pt) : PyData := .tuple (ps.map Pt.d)
theorem ThAt.dk (h : ThAt K H v ps) (l : ∀ p ∈ ps, p.lay) : Dk K H 3 v (thD ps) := by
  obtain ⟨a, vs, rfl, h1, h2, l9⟩ := h
  exact (h2.dk l).tup h1 (Nat.ble_eq_true_of_le (by have := h2.len; omega))
theorem ThsAt.dk (h : ThsAt K H vs pss) (l : ∀ ps ∈ pss, ∀ p ∈ ps, p.lay) : DkAll K H 3 vs (pss.map thD) := ⟨by rw [List.length_map]; exact h.len, fun i v d e1 e2 => by
  rw [List.getElem?_map] at e2
  obtain ⟨ps, e3, k⟩ := h.get e1
  rw [e3] at e2
  obtain rfl : thD ps = d := Option.some.inj e2
  exact k.dk (l ps (List.mem_of_getElem? e3))⟩
end
theorem all_take {α : Type} {l : List α} {f : α → Bool} {i : Nat} {x : α} (h : (l.take i).all f = true) (e : l[i]? = some x) (k : f x = true) : (l.take (i + 1)).all f = true := by
  rw [take_one e, List.all_append, h]
  show (true && (f x && true)) = true
  rw [k] <;> rfl
theorem all_not {α : Type} {l : List α} {f : α → Bool} {i : Nat} {x : α} (e : l[i]? = some x) (k : f x = false) : l.all f = false := by
  cases c : l.all f with
  | false => rfl
  | true =>
    have := List.all_eq_true.mp c x (List.mem_of_getElem? e)
    rw [k] at this
    cases this
section
variable {K : PySem.W.Frag}
theorem dk_all {H : Hp} {n : Nat} : ∀ {xs : List V} {ds : List PyData}, xs.length = ds.length → (∀ (i : Nat) (x : V) (d : PyData), xs[i]? = some x → ds[i]? = some d → Dp K H x d ∧ d.canLay0 = true ∧ d.depth ≤ n) → DpAll K H xs ds ∧ PyData.canLayAll0 ds = true ∧ PyData.depthAll ds ≤ n
  | [], [], _, _ => ⟨.nil, rfl, Nat.zero_le _⟩
  | x :: xs, d :: ds, l, h => by
    obtain ⟨a1, a2, a3⟩ := h 0 x d rfl rfl
    obtain ⟨b1, b2, b3⟩ := dk_all (xs := xs) (ds := ds) (Nat.succ.inj l) fun i x d e1 e2 => h (i + 1) x d e1 e2
    refine ⟨.cons a1 b1, ?_, ?_⟩
    · show (PyData.canLay0 d && PyData.canLayAll0 ds) = true
      rw [a2, b2] <;> rfl
    · show max (PyData.depth d) (PyData.depthAll ds) ≤ n
      omega
  | [], _ :: _, l, _ => by simp at l
  | _ :: _, [], l, _ => by simp at l
theorem dk_plain {H : Hp} : ∀ {n : Nat} {v : V} {d : PyData}, Dk K H n v d → Dp K H v d ∧ d.canLay0 = true ∧ d.depth ≤ n
  | _, _, _, .non _ => ⟨.non, rfl, Nat.zero_le _⟩
  | _, _, _, .bl _ b => ⟨.bl b, rfl, Nat.zero_le _⟩
  | _, _, _, .int _ i => ⟨.int i, rfl, Nat.zero_le _⟩
  | _, _, _, .str _ x ok => ⟨.str x, ok, Nat.zero_le _⟩
  | n + 1, _, _, .lst (xs := xs) (ds := ds) h1 h2 h3 h4 => by
    obtain ⟨a1, a2, a3⟩ := dk_all (xs := xs) (ds := ds) (n := n) h2 fun i x d e1 e2 => dk_plain (h4 i x d e1 e2)
    exact ⟨.lst (SqL.of h1) a1, a2, Nat.succ_le_succ a3⟩
  | n + 1, _, _, .tup (xs := xs) (ds := ds) h1 h2 h3 h4 => by
    obtain ⟨a1, a2, a3⟩ := dk_all (xs := xs) (ds := ds) (n := n) h2 fun i x d e1 e2 => dk_plain (h4 i x d e1 e2)
    exact ⟨.tup h1 a1, a2, Nat.succ_le_succ a3⟩
/-- two readings of one data are alike -/
theorem eq_dk {H : Hp} {Q : VK} {n : Nat} {x y : V} {d : PyData} (h1 : Dk K H n x d) (h2 : Dk K H n y d) (le : n ≤ 60) (q : Q (.bl true) H) : rEqD K x y H Q := by
  obtain ⟨a1, a2, a3⟩ := dk_plain h1
  have sh : SeqAt.shaped d = true := by
    show (PyData.canLay0 d && decide (PyData.depth d ≤ 64)) = true
    rw [a2, decide_eq_true (by omega)] <;> rfl
  refine ⟨d, d, a1, (dk_plain h2).1, sh, sh, ?_⟩
  rw [SeqAt.eqv_refl _ a2]
  exact q
end
section
variable {K : PySem.W.Frag}
theorem PtsAt.put {H : Hp} {vs : List V} {ps : List Pt} {v : V} {p : Pt} (h : PtsAt K H vs ps) (k : PtAt K H v p) (j : Nat) : PtsAt K H (vs.set j v) (ps.set j p) := by
  refine ⟨by rw [List.length_set, List.length_set, h.len], fun i u q e1 e2 => ?_⟩
  by_cases c : j = i
  · subst c
    have l1 := (List.getElem?_eq_some_iff.mp e1).1
    have l2 := (List.getElem?_eq_some_iff.mp e2).1
    rw [List.length_set] at l1 l2
    rw [List.getElem?_set_self l1] at e1
    rw [List.getElem?_set_self l2] at e2
    obtain rfl := Option.some.inj e1
    obtain rfl := Option.some.inj e2
    exact k
  · rw [List.getElem?_set_ne c] at e1 e2
    exact h.at_ i u q e1 e2
theorem PtsAt.cut {H : Hp} {vs : List V} {ps : List Pt} (h : PtsAt K H vs ps) (j : Nat) : PtsAt K H (vs.eraseIdx j) (ps.eraseIdx j) := by
  rw [List.eraseIdx_eq_take_drop_succ, List.eraseIdx_eq_take_drop_succ]
  exact (h.take j).cat (h.drop (j + 1))
/-- so many parts, each of which can be laid out -/
def GoodP (lo hi : Nat) (ps : List Pt) : Prop := lo ≤ ps.length ∧ ps.length ≤ hi ∧ ∀ q ∈ ps, q.lay
def GoodT (lo hi : Nat) (pss : List (List Pt)) : Prop := ∀ ps ∈ pss, GoodP lo hi ps
theorem GoodT.app {lo hi : Nat} {a b : List (List Pt)} (h : GoodT lo hi a) (k : GoodT lo hi b) : GoodT lo hi (a ++ b) := fun ps hps => (List.mem_append.mp hps).elim (h ps) (k ps)
theorem GoodT.take {lo hi : Nat} {a : List (List Pt)} (h : GoodT lo hi a) (n : Nat) : GoodT lo hi (a.take n) := fun ps hps => h ps (List.mem_of_mem_take hps)
theorem GoodT.drop {lo hi : Nat} {a : List (List Pt)} (h : GoodT lo hi a) (n : Nat) : GoodT lo hi (a.drop n) := fun ps hps => h ps (List.mem_of_mem_drop hps)
theorem GoodT.up {lo hi lo2 hi2 : Nat} {a : List (List Pt)} (h : GoodT lo hi a) (l : lo2 ≤ lo) (m : hi ≤ hi2) : GoodT lo2 hi2 a := fun ps hps => by
  obtain ⟨a1, a2, a3⟩ := h ps hps
  exact ⟨by omega, by omega, a3⟩
theorem GoodT.one {lo hi : Nat} {ps : List Pt} (h : GoodP lo hi ps) : GoodT lo hi [ps] := fun q hq => by rw [List.mem_singleton.mp hq]; exact h
/-- a part picked of a list of parts -/
theorem PtsAt.pick {H : Hp} {vs : List V} {ps : List Pt} (h : PtsAt K H vs ps) (l : ∀ q ∈ ps, q.lay) {z : Int} (z0 : 0 ≤ z) (z1 : z < (vs.length : Int)) : ∃ v p, atI vs z = some v ∧ PtAt K H v p ∧ p.lay := by
  have g : vs[z.toNat]? = some (vs[z.toNat]'(by omega)) := List.getElem?_eq_getElem _
  obtain ⟨p, hp, k⟩ := h.get g
  exact ⟨_, p, at_of (j := z.toNat) (by omega) g, k, l p (List.mem_of_getElem? hp)⟩
theorem ixN_of {n : Nat} {z : Int} (h0 : 0 ≤ z) (h1 : z < (n : Int)) : ixN n z = some z.toNat := by
  unfold ixN
  rw [if_pos h0, if_pos h1]
theorem seq_of {n : Nat} {z : Int} (h0 : 0 ≤ z) (h1 : z < (n : Int)) : seqIndex? z n = some z.toNat := (ixN_seq (ixN_of h0 h1)).1
theorem ThsAt.pick {H : Hp} {vs : List V} {pss : List (List Pt)} (h : ThsAt K H vs pss) {lo hi : Nat} (l : GoodT lo hi pss) {z : Int} (z0 : 0 ≤ z) (z1 : z < (vs.length : Int)) : ∃ v ps, atI vs z = some v ∧ ThAt K H v ps ∧ GoodP lo hi ps := by
  have g : vs[z.toNat]? = some (vs[z.toNat]'(by omega)) := List.getElem?_eq_getElem _
  obtain ⟨p, hp, k⟩ := h.get g
  exact ⟨_, p, at_of (j := z.toNat) (by omega) g, k, l p (List.mem_of_getElem? hp)⟩
theorem ptF {H : Hp} {c : Addr} {t b : Int} (h : SqT K H c [.int t, .int b]) (z1 : t.natAbs < 2 ^ 200 := by decide) (z2 : b.natAbs < 2 ^ 200 := by decide) : PtAt K H (.ref c) (.f t b) := ⟨⟨c, rfl, h⟩, z1, z2⟩
theorem ptI {H : Hp} (n : Int) (z : n.natAbs < 2 ^ 200 := by decide) : PtAt K H (.int n) (.i n) := ⟨rfl, z⟩
theorem ptS {H : Hp} (x : Str) (z : x.length ≤ 100000 := by decide +kernel) : PtAt K H (.str x) (.s x) := ⟨rfl, z⟩
theorem ptsS {H : Hp} : ∀ {ts : List Str}, (∀ y ∈ ts, y.length ≤ 100000) → PtsAt K H (ts.map V.str) (ts.map Pt.s)
  | [], _ => .nil
  | y :: ts, h => .cons ⟨rfl, h y List.mem_cons_self⟩ (ptsS fun z hz => h z (List.mem_cons_of_mem _ hz))
end
end KR
/-! ### zip of two texts -/
namespace KR
open PySem PySem.Spec PyProof.Rows L2
/-- a new pair of signs at each turn -/
def ItzS (x y : Str) : It :=
  ⟨fun i _ => i < x.cps.size ∧ i < y.cps.size, fun i H v H' => ∃ (T : Addr) (a b : Nat), v = .ref T ∧ H T = none ∧ H' = upd H T (.tup [.str ⟨#[a]⟩, .str ⟨#[b]⟩]) ∧ x.cps[i]? = some a ∧ y.cps[i]? = some b,
    fun i _ => i ≤ x.cps.size ∧ i ≤ y.cps.size ∧ (i = x.cps.size ∨ i = y.cps.size)⟩
theorem turn_zipS {P : Program} {w : World} {K : PySem.W.Frag} {elts : List Expr} {kk : Nat} {tpos : Pos} {x y : Str} {t u : Tok} {N : Nat} :
    Turn P w K (.Tuple elts kk tpos) (ItzS x y) [N + 4, N + 2, N + 3, N, N + 1] (N + 4) (fun i h => IsZip h (N + 4) (N + 2) (N + 3) .none ∧ IsTupOf2 h (N + 2) (.ref N) (.ref (N + 1)) ∧ (∃ a b, IsTupOf2 h (N + 3) a b) ∧ h.IsStrIter N (strIterType x) x t i ∧ h.IsStrIter (N + 1) (strIterType y) y u i) where
  mem := List.mem_cons_self
  obj := fun i h st c hc => by
    obtain ⟨st1, st2, ⟨a, b, st3⟩, ⟨o1, e1, _, d1⟩, ⟨o2, e2, _, d2⟩⟩ := st
    have cs : c = N + 4 ∨ c = N + 2 ∨ c = N + 3 ∨ c = N ∨ c = N + 1 := by simpa using hc
    rcases cs with rfl | rfl | rfl | rfl | rfl
    · exact ⟨_, st1, nofun⟩
    · exact ⟨_, st2, nofun⟩
    · exact ⟨_, st3, nofun⟩
    · exact ⟨o1, e1, fun v q => by rw [d1] at q; cases q⟩
    · exact ⟨o2, e2, fun v q => by rw [d2] at q; cases q⟩
  keep := fun i h h' st k => by
    obtain ⟨st1, st2, ⟨a, b, st3⟩, ⟨o1, e1, r1⟩, ⟨o2, e2, r2⟩⟩ := st
    exact ⟨k _ (by simp) _ st1, k _ (by simp) _ st2, ⟨a, b, k _ (by simp) _ st3⟩, ⟨o1, k _ (by simp) _ e1, r1⟩, ⟨o2, k _ (by simp) _ e2, r2⟩⟩
  item := by
    intro X hP hw hK hc i pins s σ H E I hf st hg
    subst hP hw hK
    obtain ⟨st1, st2, ⟨a, b, st3⟩, st4, st5⟩ := st
    have calm : X.A.in1.handled = none := I.ok.hd hc
    have S : ZipSep2 (N + 4) (N + 2) (N + 3) N (N + 1) [N] [N + 1] := zip_sep2 (fun _ z => absurd z List.not_mem_nil) (fun _ z => absurd z List.not_mem_nil)
    have zlt : N + 4 < s.heap.objs.size := Heap.lt_size st1
    refine wpAny_pyNext_zipD2_item S (Draws.text calm N x t) (Draws.text calm (N + 1) y u) st1 st2 st3 st4 st5 hg.1 hg.2 fun v1 v2 h' tk p1 p2 z' TO' i1' i2' hT hsz hk => ?_
    obtain ⟨c1, t1, hc1, rfl⟩ := p1
    obtain ⟨c2, t2, hc2, rfl⟩ := p2
    refine ⟨_, rfl, wpAny_letOwnedTupleGo_zip (s := { s with heap := h', toks := tk }) z' fun h'' z'' sb => ?_⟩
    have hT2 : h''.get? s.heap.objs.size = some { cls := .type "tuple", data := .seq #[.str ⟨#[c1]⟩ t1, .str ⟨#[c2]⟩ t2] } := (sb.2 _ (Nat.ne_of_gt zlt)).trans hT
    have new : ObjOk X.prog X.w (upd H s.heap.objs.size (.tup [.str ⟨#[c1]⟩, .str ⟨#[c2]⟩])) h'' s.heap.objs.size (.tup [.str ⟨#[c1]⟩, .str ⟨#[c2]⟩]) :=
      ⟨small (by show 2 ≤ 100000; decide), [.str ⟨#[c1]⟩ t1, .str ⟨#[c2]⟩ t2], .cons ⟨_, rfl⟩ (.cons ⟨_, rfl⟩ .nil), ⟨_, hT2, rfl, _, rfl⟩⟩
    have out : ∀ {c : Nat}, c ∉ [N + 4, N + 2, N + 3, N, N + 1] → c ≠ N + 4 ∧ c ≠ N + 3 ∧ c ≠ N ∧ c ≠ N + 1 := fun {c} n => ⟨fun q => n (by simp [q]), fun q => n (by simp [q]), fun q => n (by simp [q]), fun q => n (by simp [q])⟩
    have I1 : Inv X pins σ (upd H s.heap.objs.size (.tup [.str ⟨#[c1]⟩, .str ⟨#[c2]⟩])) { s with heap := h'', toks := tk } :=
      I.turnedNew (t' := tk) (ch := [N + 4, N + 2, N + 3, N, N + 1]) (fun c o hb q => by
        obtain ⟨n1, n2, n3, n4⟩ := out hb
        exact (sb.2 c n1).trans (hk c o n1 n2 n3 n4 q)) hf (Nat.le_refl _) new
    have d1 : (N + 2 : Nat) ≠ N + 4 := by omega
    have d2 : (N + 3 : Nat) ≠ N + 4 := by omega
    have d3 : (N : Nat) ≠ N + 4 := by omega
    have d4 : (N + 1 : Nat) ≠ N + 4 := by omega
    have d5 : (N + 2 : Nat) ≠ N + 3 ∧ (N + 2 : Nat) ≠ N ∧ (N + 2 : Nat) ≠ N + 1 := by omega
    refine ⟨.ref s.heap.objs.size, _, I1, rfl, ⟨_, c1, c2, rfl, I.hok.fresh (Nat.le_refl _), rfl, hc1, hc2⟩, ⟨z'', ?_, ⟨.str ⟨#[c1]⟩ t1, .str ⟨#[c2]⟩ t2, ?_⟩, ?_, ?_⟩, fun c hcm => ?_⟩
    · exact (sb.2 _ d1).trans (hk _ _ d1 d5.1 d5.2.1 d5.2.2 st2)
    · exact (sb.2 _ d2).trans TO'
    · obtain ⟨o, e, r⟩ := i1'
      exact ⟨o, (sb.2 _ d3).trans e, r⟩
    · obtain ⟨o, e, r⟩ := i2'
      exact ⟨o, (sb.2 _ d4).trans e, r⟩
    · have hlt : c < s.heap.objs.size := by
        have cs : c = N + 4 ∨ c = N + 2 ∨ c = N + 3 ∨ c = N ∨ c = N + 1 := by simpa using hcm
        have : (c : Nat) ≤ N + 4 := by
          rcases cs with q | q | q | q | q <;> rw [q]
          · exact Nat.le_refl _
          · exact Nat.add_le_add_left (by decide : 2 ≤ 4) N
          · exact Nat.add_le_add_left (by decide : 3 ≤ 4) N
          · exact Nat.le_add_right _ _
          · exact Nat.add_le_add_left (by decide : 1 ≤ 4) N
        exact Nat.lt_of_le_of_lt this zlt
      rw [upd_ne (Nat.ne_of_lt hlt)]
      exact (hf c hcm).1
  done := by
    intro X hP hw hK hc i pins s σ H E I hf st hg
    subst hP hw hK
    obtain ⟨st1, st2, ⟨a, b, st3⟩, st4, st5⟩ := st
    have calm : X.A.in1.handled = none := I.ok.hd hc
    have S : ZipSep2 (N + 4) (N + 2) (N + 3) N (N + 1) [N] [N + 1] := zip_sep2 (fun _ z => absurd z List.not_mem_nil) (fun _ z => absurd z List.not_mem_nil)
    refine wpAny_pyNext_zipD2_end S (Draws.text calm N x t) (Draws.text calm (N + 1) y u) st1 st2 st3 st4 st5 hg.1 hg.2.1 hg.2.2 fun h' tk hk => ⟨rfl, ?_⟩
    exact I.turnedL (t' := tk) (ch := [N + 4, N + 2, N + 3, N, N + 1]) (fun c o hb q => hk c o (fun z => hb (by simp [z])) (fun z => hb (by simp [z])) (fun z => hb (by simp [z])) (fun z => hb (by simp [z])) q) hf
  self := fun A i s Q E st h => wpAny_pyIter_zip st.1 h
def iZipS (ta : TA) : TI := fun σ H R => ta σ H fun vs H1 => ∃ x y, vs = [.str x, .str y] ∧ R (ItzS x y) H1
theorem pi_zipS {X : Cx} {e e2 : Expr} {ta : TA} {p pos tpos : Pos} {elts : List Expr} {kk : Nat} (glob : Gl X "zip") (free : X.mg "zip" = none) (args : PA X [e, e2] ta)
    (st : starEach [e, e2] X.env = (false, eval e X.env) :: starEach [e2] X.env := by rfl) (bk : (backTo pos (starEach [e2] X.env)).any (·.1) = false := by rfl) : PI X (.Tuple elts kk tpos) (.Call (.Name "zip" p) [e, e2] [] pos) (iZipS ta) := by
  constructor
  intro pins s σ H R I ask
  refine Call_ (ld_blt I glob free PyProof.Rows.boot_zip (PyProof.Rows.callWith_type1 (thn (args.run pos pins s σ H _ I ask) ?_) st bk))
  rintro us s1 ⟨vs, H1, I1, rel, x, y, ev, q⟩
  subst ev
  cases rel with
  | cons r rr =>
    cases rr with
    | cons r' rr =>
      cases rr
      obtain ⟨t, rfl⟩ := r
      obtain ⟨u, rfl⟩ := r'
      have fresh5 : ∀ c, c ∈ [s1.heap.objs.size + 4, s1.heap.objs.size + 2, s1.heap.objs.size + 3, s1.heap.objs.size, s1.heap.objs.size + 1] → FpOk X pins H1 c := fun c hcm => by
        have cs : c = s1.heap.objs.size + 4 ∨ c = s1.heap.objs.size + 2 ∨ c = s1.heap.objs.size + 3 ∨ c = s1.heap.objs.size ∨ c = s1.heap.objs.size + 1 := by simpa using hcm
        have low : s1.heap.objs.size ≤ c := by rcases cs with q | q | q | q | q <;> rw [q] <;> first | exact Nat.le_refl _ | exact Nat.le_add_right _ _
        exact I1.fpOk low (I1.hok.fresh low)
      refine zip_begins2 (begins_text x t) (begins_text y u) trivial trivial fun h' hz hTI hTO h1 h2 hsz hk => wpAny_pyIter_zip hz ?_
      have I2 : Inv X pins σ H1 { s1 with heap := h' } := I1.kept (t' := s1.toks) hk
      exact ⟨s1.heap.objs.size + 4, [s1.heap.objs.size + 4, s1.heap.objs.size + 2, s1.heap.objs.size + 3, s1.heap.objs.size, s1.heap.objs.size + 1], _, _, H1, rfl, I2, turn_zipS, ⟨hz, hTI, ⟨_, _, hTO⟩, ⟨_, h1, rfl, rfl⟩, ⟨_, h2, rfl, rfl⟩⟩, fresh5, q⟩
theorem walk_zipS {x y : Str} {n : Nat} (hx : x.cps.size = n) (hy : y.cps.size = n) : Walk (ItzS x y) n (fun _ => True) (fun i H v H' => ∃ (T : Addr) (a b : Nat), v = .ref T ∧ H T = none ∧ H' = upd H T (.tup [.str ⟨#[a]⟩, .str ⟨#[b]⟩]) ∧ x.cps[i]? = some a ∧ y.cps[i]? = some b) :=
  ⟨fun i _ hi _ => ⟨by omega, by omega⟩, fun _ _ => ⟨by omega, by omega, .inl hx.symm⟩, fun _ _ _ _ _ _ z => z⟩
end KR
/-! ### a text split at one sign -/
namespace KR
open PySem PySem.Spec PyProof.Rows L2
theorem parts_at (s : Nat) : ∀ l : List Nat, ∃ ps : List (List Nat), ps ≠ [] ∧ (∀ p ∈ ps, s ∉ p) ∧ TL.joinL [s] ps = l ∧ (∀ p ∈ ps, p.length ≤ l.length) ∧ ps.length ≤ l.length + 1
  | [] => ⟨[[]], by simp, by simp, rfl, by simp, by simp⟩
  | c :: r => by
    obtain ⟨ps, h1, h2, h3, h4, h5⟩ := parts_at s r
    by_cases z : c = s
    · refine ⟨[] :: ps, by simp, fun p hp => ?_, ?_, fun p hp => ?_, by rw [List.length_cons, List.length_cons]; omega⟩
      · rcases List.mem_cons.mp hp with e | e
        · rw [e]
          simp
        · exact h2 p e
      · cases ps with
        | nil => exact absurd rfl h1
        | cons q qs =>
          show [] ++ ([s] ++ TL.joinL [s] (q :: qs)) = c :: r
          rw [h3, z]
          rfl
      · rcases List.mem_cons.mp hp with e | e
        · rw [e]
          simp
        · have := h4 p e
          rw [List.length_cons]
          omega
    · cases ps with
      | nil => exact absurd rfl h1
      | cons q qs =>
        refine ⟨(c :: q) :: qs, by simp, fun p hp => ?_, ?_, fun p hp => ?_, by rw [List.length_cons] at h5 ⊢; rw [List.length_cons]; omega⟩
        · rcases List.mem_cons.mp hp with e | e
          · rw [e]
            intro y
            rcases List.mem_cons.mp y with y | y
            · exact z y.symm
            · exact h2 q List.mem_cons_self y
          · exact h2 p (List.mem_cons_of_mem _ e)
        · cases qs with
          | nil =>
            show c :: q = c :: r
            have : q = r := h3
            rw [this]
          | cons q2 qs2 =>
            show (c :: q) ++ ([s] ++ TL.joinL [s] (q2 :: qs2)) = c :: r
            have : q ++ ([s] ++ TL.joinL [s] (q2 :: qs2)) = r := h3
            rw [← this]
            rfl
        · rcases List.mem_cons.mp hp with e | e
          · rw [e, List.length_cons, List.length_cons]
            have := h4 q List.mem_cons_self
            omega
          · have := h4 p (List.mem_cons_of_mem _ e)
            rw [List.length_cons]
            omega
/-- what a split tells: parts without the sign, which joined are the text -/
theorem split_at {y : Str} {s : Nat} (hy : TL.tl y = [s]) (s9 : s < 256) (x : Str) : Txt.split x y ≠ [] ∧ (∀ w ∈ Txt.split x y, s ∉ TL.tl w) ∧ TL.joinL [s] ((Txt.split x y).map TL.tl) = TL.tl x ∧ (∀ w ∈ Txt.split x y, w.length ≤ x.length) ∧ (Txt.split x y).length ≤ x.length + 1 := by
  obtain ⟨ps, h1, h2, h3, h4, h5⟩ := parts_at s (TL.tl x)
  have m0 : ∀ qs : List (List Nat), (qs.map S).map TL.tl = qs := fun qs => by
    rw [List.map_map]
    exact (List.map_congr_left fun q _ => tl_S q).trans (List.map_id _)
  have ej : Txt.join y (ps.map S) = x := TL.ext_tl (by rw [TL.join_eq, TL.tl_join, hy, m0, h3])
  have es : Txt.split x y = ps.map S := by
    have e := TL.split_join (y := y) (s := s) (S := []) hy (by
      have : y.cps.toList = [s] := hy
      rw [← Array.all_toList, this]
      show (decide (s < 256) && true) = true
      rw [decide_eq_true s9] <;> rfl) (parts := ps.map S) (by simpa using h1) (fun p hp => by
      obtain ⟨q, hq, rfl⟩ := List.mem_map.mp hp
      exact h2 q hq)
    rw [ej] at e
    exact e
  rw [es]
  have lx : x.length = (TL.tl x).length := TL.len_tl x
  refine ⟨by simpa using h1, fun w hw => ?_, ?_, fun w hw => ?_, by rw [List.length_map, lx]; exact h5⟩
  · obtain ⟨q, hq, rfl⟩ := List.mem_map.mp hw
    exact h2 q hq
  · rw [m0, h3]
  · obtain ⟨q, hq, rfl⟩ := List.mem_map.mp hw
    rw [S_len, lx]
    exact h4 q hq
theorem blank_at : TL.tl (" " : Str) = [32] := by decide +kernel
theorem feed_at : TL.tl ("\n" : Str) = [10] := by decide +kernel
theorem stroke_at : TL.tl ("/" : Str) = [47] := by decide +kernel
end KR
/-! ### a caught exception that is kept behind its suite -/
namespace KR
open PySem PySem.Spec PyProof.Rows L2
/-- an exception that was caught, at a: its class, its own dict -/
def ExK (cls : Value) (d : Option Addr) (a : Addr) : HO := .ext fun g => ∃ (ob : Obj) (fs : Array Value), g.get? a = some ob ∧ Zc cls d ob ∧ ob.data = .fields fs
theorem exK_ok {P : Program} {w : World} {H : Hp} {g : Heap} {a : Addr} {cls : Value} {d : Option Addr} {ob : Obj} {fs : Array Value} (e : g.get? a = some ob) (z : Zc cls d ob) (k : ob.data = .fields fs) : ObjOk P w H g a (ExK cls d a) :=
  ⟨⟨ob, fs, e, z, k⟩, ⟨ob, e⟩, fun _ _ ⟨o, v, q, r⟩ m => ⟨o, v, m o q, r⟩⟩
/-- on with the object told -/
def wKeep (K : PySem.W.Frag) (c : Value) (i : Nat) (ts : Addr → Value → Option Addr → TS) (Wo : WX) (D : Ends) : WX := fun cls d σ H =>
  ∃ hit, PySem.W.exmOne K cls c = some hit ∧
    (hit = true → ∀ a, H a = none → ts a cls d { D with nx := fun τ G => D.nx (τ.set i none) (upd G a (ExK cls d a)), bk := fun τ G => D.bk (τ.set i none) G, ct := fun τ G => D.ct (τ.set i none) G } (σ.set i (some (.ref a))) H) ∧
    (hit = false → Wo cls d σ H)
section
variable {X : Cx} {pins : List (Addr × Obj)} {σ : L2.St} {H : Hp} {s : Shared}
/-- an object that nobody tracks, new since the entry, is tracked from now on -/
theorem Inv.track {a : Addr} {o : HO} (I : Inv X pins σ H s) (na : H a = none) (old : a ∈ X.ex ∨ X.s_0.heap.get? a = none) (nL : a ≠ X.env.locals) (nC : ∀ z c, X.env.cells.lookup z = some c → c ≠ a)
    (nP : ∀ p ∈ X.pn ++ pins, p.1 ≠ a) (new : ObjOk X.prog X.w (upd H a o) s.heap a o) : Inv X pins σ (upd H a o) s := by
  refine ⟨I.ok, I.os, I.bare, ⟨I.base.keep, I.base.slot, ?_, I.base.there, ?_, ?_, ?_⟩, I.loc, I.cell, ?_, ?_, ?_, ?_, I.len⟩
  · intro b ob e1 e2 e3
    have ne : b ≠ a := fun z => by
      rw [z] at e1 e3
      rcases old with q | q
      · exact e3 q
      · rw [q] at e1
        cases e1
    rw [upd_ne ne]
    exact I.base.free b ob e1 e2 e3
  · intro b xs e
    have e' := I.base.tups b xs e
    rw [upd_ne (ne_of_none e' na)]
    exact e'
  · intro b ob u e
    have e' := I.base.frzs b ob u e
    rw [upd_ne (ne_of_none e' na)]
    exact e'
  · intro b ps e
    obtain ⟨more, e'⟩ := I.base.tbls b ps e
    refine ⟨more, ?_⟩
    rw [upd_ne (ne_of_none e' na)]
    exact e'
  · rw [upd_ne (Ne.symm nL)]
    exact I.free
  · intro z c e
    rw [upd_ne (nC z c e)]
    exact I.freeC z c e
  · intro p hp
    obtain ⟨h1, h2, h3, h4, h5⟩ := I.pin p hp
    refine ⟨h1, ?_, h3, h4, h5⟩
    rw [upd_ne (nP p hp)]
    exact h2
  · intro b u e
    by_cases z : b = a
    · subst z
      rw [upd_same] at e
      cases e
      exact new
    · rw [upd_ne z] at e
      refine (I.hok b u e).stay (fun _ _ _ g => g) (fun c g => ?_) fun c xs g => ?_
      · rw [upd_ne (ne_of_none g na)]
        exact g
      · rw [upd_ne (ne_of_none g na)]
        exact g
end
section
variable {X : Cx} {x n : Str} {c : Value} {i : Nat} {body suite : List Stmt} {b0 : Stmt} {p1 p2 p3 : Pos} {tb : WX → TS} {ts : Addr → Value → Option Addr → TS} {Wo : WX}
/-- try .. except x as n: what the suite keeps of the exception may be asked behind it -/
theorem ps_try_keep (stk : X.stack = X.env :: X.outer) (frm : X.env.frame = some X.env.locals) (nd : X.N.Nodup) (sl : X.N[i]? = some n) (kn : X.env.kindOf n = some .local) (nm : Names X x c) (out : Takes X Wo)
    (hbody : ∀ (W : WX) (pn : List (Addr × Obj)) (xe : Value → Shared → Prop), Takes (X.tr pn xe) W → PassesOwn (model X.prog X.w) X.A X.env xe → PSs (X.tr pn xe) body (tb W))
    (hsuite : ∀ (a : Addr) (ob : Obj) (cls : Value) (d : Option Addr) (pn : List (Addr × Obj)), Zc cls d ob → (∃ fs, ob.data = .fields fs) → PSs (X.suite a ((a, ob) :: pn)) (b0 :: suite) (ts a cls d)) :
    PS X (.Try body [.ExceptHandler (some (.Name x p1)) (some n) (b0 :: suite) p2] [] [] p3) (fun D σ H => tb (wKeep X.K c i ts Wo D) D σ H) := by
  constructor
  intro pins s σ H D I ask
  have fine := I.ok
  have frames : X.A.frames = some (X.env :: X.outer) := by rw [fine.frames, stk]
  have place : Loc X.env.scope n := .inl kn
  refine wpAny_Try_except ?_
  refine wpAny_mono ((hbody (wKeep X.K c i ts Wo D) (X.pn ++ pins) (fun e t1 => wpAny (model X.prog X.w) X.A (noteFrame e X.env) (fun _ t2 => wpAny (model X.prog X.w) X.A (setFlight e none) (fun _ t3 =>
    wpAny (model X.prog X.w) X.A (handleBy e X.env [.ExceptHandler (some (.Name x p1)) (some n) (b0 :: suite) p2]) (SP X pins D) X.xe t3) X.xe t2) X.xe t1) (fun v t0 air => ?caught) PassesOwn.looking).run [] s σ H D (I.toTry _) ask) (fun f s1 sp => ?done) (fun _ _ h => h)
  case done =>
    cases f with
    | next =>
      obtain ⟨τ, G, J, more⟩ := sp
      exact wpAny_execs_nil ⟨τ, G, J.ofTry fine, more⟩
    | brk =>
      obtain ⟨τ, G, J, more⟩ := sp
      exact ⟨τ, G, J.ofTry fine, more⟩
    | cont =>
      obtain ⟨τ, G, J, more⟩ := sp
      exact ⟨τ, G, J.ofTry fine, more⟩
    | ret u =>
      obtain ⟨v, τ, G, J, rel, more⟩ := sp
      exact ⟨v, τ, G, J.ofTry fine, rel, more⟩
  case caught =>
    obtain ⟨a, B, sB, ps, τ, G, cls, d, rfl, J0, ground, up0, sky, na, os, bare, hit, eHit, yes, no⟩ := air
    have J : Inv X pins τ G sB := J0.ofTry fine
    have sky1 : Sky B (X.env :: X.outer) a (Zc cls d) X.env.locals t0.heap := by rw [← stk]; exact sky
    show wpAny (model X.prog X.w) X.A (noteFrame (.ref a) X.env) _ _ _
    refine Sky.land Zc.steady frames frm sky1 fun g1 fly1 up1 => ?_
    obtain ⟨ob1, fs1, at_1, z1, d1⟩ := fly1.there
    have noFrame : a ∉ frs (X.env :: X.outer) := fun m => by
      obtain ⟨_, o2, e2, bad⟩ := fly1.2.2.1.mem m
      rw [at_1] at e2
      cases e2
      exact bad _ d1
    have nL : a ≠ X.env.locals := fun z => noFrame (List.mem_filterMap.mpr ⟨X.env, List.mem_cons_self, by rw [frm, z]⟩)
    have nF : a ∉ X.fs := fun m => by
      obtain ⟨e, he, q⟩ := List.mem_filterMap.mp m
      exact noFrame (List.mem_filterMap.mpr ⟨e, List.mem_cons_of_mem _ he, q⟩)
    -- the object is new since the entry
    have fresh : sB.heap.get? a = none := by
      cases e : sB.heap.get? a with
      | none => rfl
      | some o =>
        have inB := ground a o e (by rw [stk]; exact noFrame)
        rw [fly1.2.1] at inB
        cases inB
    have old : a ∈ X.ex ∨ X.s_0.heap.get? a = none := by
      by_cases ex : a ∈ X.ex
      · exact .inl ex
      · right
        cases e : X.s_0.heap.get? a with
        | none => rfl
        | some o =>
          obtain ⟨o2, e2⟩ := J.base.there a o e ex
          rw [fresh] at e2
          cases e2
    have J1 : Inv X pins τ G { t0 with heap := g1 } := J.landed ground fly1.1 (up0.trans up1) os bare
    have inner := J1.suite at_1 d1 na nL nF
    refine wpAny_handleBy_cons (codeAny_handlers_test ?_) (by intro q; cases q)
    have kind : PySem.W.Looks (model X.prog X.w) g1 (typeOf (.ref a)) cls := fun _ _ _ _ k q => wpAny_typeOf_ref (k _ _ at_1) (by rw [z1.1]; exact q)
    have match_ := PySem.W.exm_one (M := model X.prog X.w) J1.kIn kind eHit
    have named : ∀ {R : Value → Shared → Prop} {E : Value → Shared → Prop}, R c { t0 with heap := g1 } → wpAny (model X.prog X.w) (X.A.mark (some (.ref a))) (eval (.Name x p1) X.env) R E { t0 with heap := g1 } := fun {R E} r => by
      obtain ⟨u1, u2, u3 | ⟨u3, u4, u5⟩⟩ := nm
      · exact ld_glob (X := X.suite a ((a, ob1) :: (X.pn ++ pins))) inner u1 u3 r u2
      · exact ld_blt (X := X.suite a ((a, ob1) :: (X.pn ++ pins))) inner u1 u3 u4 r u5 u2
    refine named (match_.here ?_)
    have noPin : ∀ p ∈ X.pn ++ pins, p.1 ≠ a := fun p hp z => by
      have q := (J.pin p hp).1
      rw [z, fresh] at q
      cases q
    have noCell : ∀ z c, X.env.cells.lookup z = some c → c ≠ a := fun z c e q => by
      obtain ⟨v, o, e1, _⟩ := J.cell z c e
      rw [q, fresh] at e1
      cases e1
    cases hit with
    | true =>
      refine codeAny_handlers_suite_as ?_
      refine HandSPX.lands_againZ fly1 fun g2 fly2 up2 => ?_
      obtain ⟨ob2, fs2, at_2, z2, d2⟩ := fly2.there
      have J2 : Inv X pins τ G { t0 with heap := g2 } := J.landed ground fly2.1 ((up0.trans up1).trans up2) os bare
      have within := J2.suite at_2 d2 na nL nF
      refine store_ok (X := X.suite a ((a, ob2) :: (X.pn ++ pins))) (v := .ref a) within nd sl place rfl (fun t3 J3 => ?_) (.inr kn)
      refine wpAny_mono ((hsuite a ob2 cls d (X.pn ++ pins) z2 ⟨_, d2⟩).run [] t3 _ G _ J3 (yes rfl a na)) (fun f t4 sp => ?_) (fun _ _ z => False.elim z)
      have leave : ∀ {τ4 : L2.St} {G4 : Hp} {R : Shared → Prop}, Inv (X.suite a ((a, ob2) :: (X.pn ++ pins))) [] τ4 G4 t4 → (∀ t5, Inv (X.suite a ((a, ob2) :: (X.pn ++ pins))) [] (τ4.set i none) G4 t5 → R t5) →
          wpAny (model X.prog X.w) X.A (do bindName X.env n .none; unbindBehindTheSuite X.env n p2) (fun _ t5 => R t5) X.xe t4 := fun {τ4 G4 R} J4 r =>
        gone_ok (X := X.suite a ((a, ob2) :: (X.pn ++ pins))) J4 nd sl kn r
      cases f with
      | next =>
        obtain ⟨τ4, G4, J4, more⟩ := sp
        refine leave J4 fun t5 J5 => ?_
        obtain ⟨k1, k2, _⟩ := J5.pin (a, ob2) (List.mem_append_left _ List.mem_cons_self)
        have J6 := J5.unsuite fine
        exact ⟨_, _, Inv.track J6 k2 old nL noCell noPin (exK_ok k1 z2 d2), more⟩
      | brk =>
        obtain ⟨τ4, G4, J4, more⟩ := sp
        exact leave J4 fun t5 J5 => ⟨_, _, J5.unsuite fine, more⟩
      | cont =>
        obtain ⟨τ4, G4, J4, more⟩ := sp
        exact leave J4 fun t5 J5 => ⟨_, _, J5.unsuite fine, more⟩
      | ret u =>
        obtain ⟨v, τ4, G4, J4, rel, more⟩ := sp
        exact leave J4 fun t5 J5 => ⟨_, _, _, J5.unsuite fine, rel, more⟩
    | false =>
      show wpAny _ X.A (handleBy (.ref a) X.env []) _ _ _
      refine wpAny_handleBy_nil ?_
      obtain ⟨_, _, _, o3, v3, T3, l3, w3, in3, z3, data3, slot3, _⟩ := id fly1
      unfold PySem.passOn
      refine wpAny_bind (wpAny_field in3 data3 slot3 ?_)
      have ref3 : ¬ ((Value.ref T3 == Value.none) = true) := by simp
      rw [if_neg ref3]
      have throw3 : wpAny (model X.prog X.w) X.A (setFlight (.ref a) X.env.frame) (fun _ t4 => wpAny (model X.prog X.w) X.A (throw (.ref a) : Sem Flow) (SP X pins D) X.xe t4) X.xe { t0 with heap := g1 } := by
        rw [frm]
        refine HandSPX.setFlight_upZ fly1 fun g2 held2 up2 => wpAny_throw (out _ _ ?_)
        have sky2 : Sky B X.stack a (Zc cls d) X.env.locals g2 := .inr (.inr (by rw [stk]; exact held2))
        exact ⟨a, B, sB, pins, τ, G, cls, d, rfl, J, ground, (up0.trans up1).trans up2, sky2, na, os, bare, no rfl⟩
      first
        | exact wpAny_bind throw3
        | exact wpAny_bind (wpAny_pure (wpAny_bind throw3))
end
/-- what the written part says of a class whose objects are caught -/
structure ExcFacts (K : PySem.W.Frag) (C : Addr) : Prop where
  cl : (PySem.W.clsIn K C).isSome = true
  ga : PySem.W.findIn K (.ref C) "__getattribute__" = some (some (.builtin "BaseException.__getattribute__"))
  gg : PySem.W.findIn K (.ref C) "__getattr__" = some none
  sub : PySem.W.subIn K (.ref C) (.type "BaseException") = some true
  cls : PySem.W.findIn K (.ref C) "__class__" = some (some (.builtin "object.__class__"))
  get : PySem.W.specialIn K (.builtin "object.__class__") "__get__" = some (some (.builtin "getset_descriptor.__get__"))
  tak : PySem.W.takesIn K (.builtin "object.__class__") = some true
  obj : PySem.W.mroIn K C (.type "object") = some true
  dic : PySem.W.hasDictIn K C = true
  fld : PySem.W.findIn K (.ref C) "what" = some none
/-- which classes an exception's class stands under, by what the written part says of both -/
theorem kit_own {K : PySem.W.Frag} {C D : Addr} {b : Bool} (h1 : PySem.W.isClsIn K D = true) (h2 : PySem.W.typeIn K (.ref D) = some (.type "type")) (h3 : PySem.W.subIn K (.ref C) (.ref D) = some b) (h4 : PySem.W.subIn K (.ref C) (.ref C) = some true) : PySem.W.kitOne K (.ref C) (.ref D) = some b := by
  unfold PySem.W.kitOne
  by_cases e : (Value.ref C == Value.ref D) = true
  · rw [if_pos e]
    have e2 : Value.ref C = Value.ref D := eq_of_beq e
    rw [← e2, h4] at h3
    exact h3
  · rw [if_neg e]
    show (if ((PySem.W.clsIn K D).isSome && PySem.W.typeIn K (.ref D) == some (.type "type")) = true then PySem.W.subIn K (.ref C) (.ref D) else none) = some b
    have h1' : (PySem.W.clsIn K D).isSome = true := h1
    have e1 : ((PySem.W.clsIn K D).isSome && PySem.W.typeIn K (.ref D) == some (.type "type")) = true := by rw [h1', h2] <;> rfl
    rw [if_pos e1]
    exact h3
theorem kit_ve {K : PySem.W.Frag} {C : Addr} (h : PySem.W.subIn K (.ref C) (.type "ValueError") = some true) : PySem.W.kitOne K (.ref C) (.type "ValueError") = some true := by
  unfold PySem.W.kitOne
  rw [if_neg (by intro z; exact absurd (eq_of_beq z) (by intro y; cases y))]
  show (if PySem.W.kitMeta "ValueError" = true then PySem.W.subIn K (.ref C) (.type "ValueError") else none) = some true
  rw [if_pos (by decide +kernel)]
  exact h
theorem exm_own {K : PySem.W.Frag} {C D : Addr} {b : Bool} (h0 : PySem.W.subIn K (.ref D) (.type "BaseException") = some true) (h1 : PySem.W.isClsIn K D = true) (h2 : PySem.W.typeIn K (.ref D) = some (.type "type")) (h3 : PySem.W.subIn K (.ref C) (.ref D) = some b) : PySem.W.exmOne K (.ref C) (.ref D) = some b := by
  unfold PySem.W.exmOne
  have e0 : (PySem.W.subIn K (.ref D) (.type "BaseException") == some true) = true := by rw [h0] <;> rfl
  rw [if_pos e0]
  show (if ((PySem.W.clsIn K D).isSome && PySem.W.typeIn K (.ref D) == some (.type "type")) = true then PySem.W.subIn K (.ref C) (.ref D) else none) = some b
  have h1' : (PySem.W.clsIn K D).isSome = true := h1
  have e1 : ((PySem.W.clsIn K D).isSome && PySem.W.typeIn K (.ref D) == some (.type "type")) = true := by rw [h1', h2] <;> rfl
  rw [if_pos e1]
  exact h3
/-- what an exception's own dict has: its class's name, what it was made with -/
def wh (nm : Str) (v : V) : List (Str × V) := [(("word" : Str), .str nm), (("what" : Str), v)]
/-- a caught one at a, its dict at d: the field what is v -/
structure Kept (K : PySem.W.Frag) (H : Hp) (a C d : Addr) (v : V) : Prop where
  F : ExcFacts K C
  ob : H a = some (ExK (.ref C) (some d) a)
  di : ∃ nm : Str, H d = some (.xd (wh nm v))
theorem Kept.same {K : PySem.W.Frag} {H G : Hp} {a C d : Addr} {v : V} (k : Kept K H a C d v) (s : Same H G) : Kept K G a C d v := ⟨k.F, s _ _ k.ob, k.di.imp fun _ e => s _ _ e⟩
section
variable {X : Cx} {pins : List (Addr × Obj)} {σ : L2.St} {H : Hp} {s : Shared}
theorem Kept.inst {a C d : Addr} {v : V} (k : Kept X.K H a C d v) (I : Inv X pins σ H s) : ∃ (nm : Str) (ob od : Obj) (m : Str → Option Value), PySem.W.InstAt s.heap a ob C (some od) ∧ s.heap.Ns1 d m ∧ s.heap.get? d = some od ∧ (∀ f, RelO (List.lookup f (wh nm v)) (m f)) := by
  obtain ⟨nm, kdi⟩ := k.di
  obtain ⟨⟨ob, fs, e, z, da⟩, _⟩ := (show ObjOk X.prog X.w H s.heap a (ExK (.ref C) (some d) a) from I.hok a _ k.ob)
  obtain ⟨m, ns, r⟩ := (show ObjOk X.prog X.w H s.heap d (.xd (wh nm v)) from I.hok d _ kdi)
  obtain ⟨od, ho, _⟩ := lookIn_ns ns
  exact ⟨nm, ob, od, m, ⟨e, z.1, by unfold PySem.W.notCls; rw [da] <;> rfl, by rw [z.2]; exact ho⟩, ns, ho, r⟩
end
/-- isinstance of a kept one: a class, a tuple of classes -/
def rIsX (K : PySem.W.Frag) : List V → Hp → VK → Prop := fun xs H Q => ∃ (a C d : Addr) (v k : V) (u : Value) (b : Bool), xs = [.ref a, k] ∧ Kept K H a C d v ∧ ClsV k u ∧ PySem.W.kitOne K (.ref C) u = some b ∧ Q (.bl b) H
def rIsXT (K : PySem.W.Frag) : List V → Hp → VK → Prop := fun xs H Q => ∃ (a C d tp : Addr) (v : V) (ks : List V) (us : List Value) (b : Bool), xs = [.ref a, .ref tp] ∧ Kept K H a C d v ∧ H tp = some (.tup ks) ∧ Paired ClsV ks us ∧ PySem.W.kitAny K (.ref C) us = some b ∧ Q (.bl b) H
section
variable {X : Cx} {K : PySem.W.Frag}
theorem isX (hK : X.K = K) : CallR X (.builtin "isinstance") (rIsX K) := by
  subst hK
  intro pins s σ H xs us Q I rel ⟨a, C, d, v, k, u, b, e, kp, kc, ko, q⟩
  subst e
  obtain ⟨w1, w2, e2, r1, r2⟩ := vals2 rel
  subst e2
  obtain rfl : w1 = Value.ref a := r1
  obtain rfl := kc.eq r2
  obtain ⟨nm, ob, od, m, inst, _⟩ := kp.inst I
  have kit := PySem.W.kitx_exc (x := a) (ox := ob) (od := some od) kp.F.cl kp.F.ga kp.F.gg kp.F.sub kp.F.cls kp.F.get kp.F.tak kp.F.obj
  exact PySem.W.kia_one kit I.kIn inst ko (fun z => nomatch z) fun tk => ⟨.bl b, H, I.tok tk, rfl, q⟩
theorem isXT (hK : X.K = K) : CallR X (.builtin "isinstance") (rIsXT K) := by
  subst hK
  intro pins s σ H xs us Q I rel ⟨a, C, d, tp, v, ks, cs, b, e, kp, ht, kc, ko, q⟩
  subst e
  obtain ⟨w1, w2, e2, r1, r2⟩ := vals2 rel
  subst e2
  obtain rfl : w1 = Value.ref a := r1
  obtain rfl : w2 = Value.ref tp := r2
  obtain ⟨nm, ob, od, m, inst, _⟩ := kp.inst I
  have kit := PySem.W.kitx_exc (x := a) (ox := ob) (od := some od) kp.F.cl kp.F.ga kp.F.gg kp.F.sub kp.F.cls kp.F.get kp.F.tak kp.F.obj
  obtain ⟨_, items, rv, o, at_o, c_o, len_o, data_o⟩ := (show ObjOk X.prog X.w H s.heap tp (.tup ks) from I.hok tp _ ht)
  obtain rfl := ClsV.all kc rv
  obtain ⟨oc, odict, odata, oslots⟩ := o
  simp only at c_o data_o
  subst c_o data_o
  exact PySem.W.kia_tup kit I.kIn inst at_o ko (fun z => nomatch z) fun tk => ⟨.bl b, H, I.tok tk, rfl, q⟩
/-- caught.what -/
def tWhat (K : PySem.W.Frag) (te : TE) : TE := fun σ H Q => te σ H fun x G => ∃ (a C d : Addr) (v : V), x = .ref a ∧ Kept K G a C d v ∧ Q v G
theorem pe_what {e : Expr} {te : TE} {pos : Pos} (hK : X.K = K) (he : PE X e te) (hb : attributeBase e "what" X.env (eval e X.env) = eval e X.env := by rfl) : PE X (.Attribute e "what" pos) (tWhat K te) := by
  subst hK
  constructor
  intro pins s σ H Q I ask
  refine attr_of hb (thn (he.run pins s σ H _ I ask) fun u t1 got => ?_)
  obtain ⟨x, G, J, rel, a, C, d, v, e1, kp, q⟩ := got
  subst e1
  obtain rfl : u = Value.ref a := rel
  obtain ⟨nm, ob, od, m, inst, ns, at_d, fs⟩ := kp.inst J
  obtain ⟨od2, at_d2, look⟩ := lookIn_ns ns
  rw [at_d] at at_d2
  obtain rfl := Option.some.inj at_d2
  have l1 : List.lookup ("what" : Str) (wh nm v) = some v := rfl
  obtain ⟨w, hw, rw_⟩ := RelO.some_of (v := v) (o := m "what") (by rw [← l1]; exact fs "what")
  have found := PySem.W.findObj_own (K := X.K) (C := C) (od := od) kp.F.dic kp.F.fld rfl (by rw [look, hw])
  exact HandSPX.exc_get J.kIn inst kp.F.ga kp.F.gg kp.F.sub found (handed_of rw_) ⟨v, G, J.tok _, rw_, q⟩
end
end KR
/-! ### the name of its class, which an exception keeps: self.word = self.__class__.__name__ -/
namespace PySem.W
open PySem PySem.Calls PySem.Spec PyProof.Rows Builtin Builtin.Getset_descriptor
section
variable {pg : Program} {wd : World} {Ar : Around} {Ex : Value → Shared → Prop} {sh : Shared} {Fg : Frag} {Rr : Result → Shared → Prop} {Cl z : Addr} {oz : Obj} {oy : Option Obj}
theorem own_dga (dv tv : Value) (b : Addr) : descrGetArgs ⟨[dv, .ref b, tv], []⟩ = pure (dv, some (.ref b), given tv) := by kernel_rfl
theorem own_name_get {tv : Value} {oc : Obj} {nm : Str} {tk : Tok} (at_C : sh.heap.get? Cl = some oc) (ty : oc.cls = .type "type") (sl : (oc.slots[2]?).join = some (.str nm tk)) (want : Rr (.ok (.ret (.str nm tk))) sh) :
    codeAny (model pg wd) Ar (.call (.builtin "getset_descriptor.__get__") ⟨[.builtin "type.__name__", .ref Cl, tv], []⟩) Rr sh := by
  obtain ⟨hh, g, dr, t, os⟩ := sh
  have K0 : Looks (model pg wd) hh (typeOf (.ref Cl)) (.type "type") := fun _ _ _ _ keep q => wpAny_typeOf_ref (keep _ _ at_C) (by rw [ty]; exact q)
  have K1 : Looks (model pg wd) hh (isSubtype (.type "type") (.type "type")) true := .of_pure (by rw [isSubtype_type] <;> kernel_rfl)
  refine codeAny_call_builtin KF.slot_gs.plain KF.entry_gs <| KF.slot_gs.check _ _ _ _ _ _ _ _ ktyn_type (KF.args_gs _ _ _) ?_
  unfold Builtin.«getset_descriptor.__get__» descrGet; rw [own_dga]; refine wpAny_bind <| wpAny_pure ?_
  unfold descrGetter descrCheckInstance descrNameAndClass isInstance; simp only [ktyn_owner]
  repeat lk
  refine ⟨Code.quiet_builtin _ (by decide +kernel), codeAny_builtin ktyn_entry ?_⟩
  unfold Builtin.«type.__name__»; dsimp only
  unfold keptObject slotAt; dsimp only
  refine wpAny_bind (wpAny_bind (wpAny_loadPart_at at_C (wpAny_pure ?_)))
  rw [sl]; dsimp only
  first
    | exact wpAny_pure want
    | exact wpAny_bind (wpAny_pure want)
    | exact wpAny_bind (wpAny_pure (wpAny_pure want))
theorem own_name {expr : Bool} {Q : Value → Shared → Prop} {oc : Obj} {nm : Str} {tk : Tok} (X : Fg.In sh.heap) (rd : readsIn Fg Cl (.type "type") = true) (fc : findCls Fg (.ref Cl) (.type "type") "__name__" = some (.get (.builtin "getset_descriptor.__get__") (.builtin "type.__name__") (.ref Cl) (.type "type")))
    (lk : Fg.lookup Cl = some oc) (ty : oc.cls = .type "type") (sl : (oc.slots[2]?).join = some (.str nm tk)) (want : ∀ u, Q (.str nm tk) { sh with toks := u }) : wpAny (model pg wd) Ar (getAttr (.ref Cl) "__name__" expr) Q Ex sh := by
  refine cls_read X rd fc ?_
  show wpAny _ _ (holding [Value.builtin "type.__name__"] (call (.builtin "getset_descriptor.__get__") [.builtin "type.__name__", .ref Cl, .type "type"]) >>= ret) _ _ _
  refine wpAny_bind <| wpAny_holding <| wpAny_call <| own_name_get (sh := { sh with toks := sh.toks + 1 }) (X _ _ lk) ty sl ?_
  exact wpAny_pure (handed_on rfl (want _))
theorem own_class {expr : Bool} {Q : Value → Shared → Prop} (X : Fg.In sh.heap) (I : InstAt sh.heap z oz Cl oy) (c1 : findIn Fg (.ref Cl) "__getattribute__" = some (some (.builtin "BaseException.__getattribute__"))) (c2 : findIn Fg (.ref Cl) "__getattr__" = some none)
    (c3 : subIn Fg (.ref Cl) (.type "BaseException") = some true) (c4 : (clsIn Fg Cl).isSome = true) (c5 : findIn Fg (.ref Cl) "__class__" = some (some (.builtin "object.__class__"))) (c6 : specialIn Fg (.builtin "object.__class__") "__get__" = some (some (.builtin "getset_descriptor.__get__")))
    (c7 : takesIn Fg (.builtin "object.__class__") = some true) (c8 : mroIn Fg Cl (.type "object") = some true) (want : ∀ u, Q (.ref Cl) { sh with toks := u }) : wpAny (model pg wd) Ar (getAttr (.ref z) "__class__" expr) Q Ex sh := by
  have fo : findObj Fg Cl oy "__class__" = some (.bind (.builtin "getset_descriptor.__get__") (.builtin "object.__class__")) := by
    cases oy with
    | none => exact findObj_dataN c4 c5 c6 c7
    | some ob => exact findObj_data c4 c5 c6 c7
  obtain ⟨hh, g, dr, t, os⟩ := sh
  have K0 := I.type (M := model pg wd)
  have K1 := looks_findIn (M := model pg wd) X c1
  have K2 := looks_findIn (M := model pg wd) X c2
  have K3 := looks_find (M := model pg wd) X I fo
  have below : Looks (model pg wd) hh (isInstance (.ref z) (.type "BaseException")) true := K0.andThen (looks_subIn X c3)
  have n0 : (expr && onTheHeap (Value.builtin "BaseException.__getattribute__")) = false := by cases expr <;> rfl
  have n1 : (Value.builtin "BaseException.__getattribute__" == Value.builtin "object.__getattribute__") = false := by decide +kernel
  have n2 : (onTheHeap (Value.ref Cl) && Value.builtin "BaseException.__getattribute__" == Value.builtin "object.__getattribute__") = false := by rw [n1] <;> rfl
  unfold getAttr getAttrBy
  refine wpAny_bind <| wpAny_mkText <| wpAny_holding <| wpAny_bind <| K0.at <| wpAny_bind <| K1.at ?_
  show wpAny _ _ (ite ((onTheHeap (Value.ref Cl) && Value.builtin "BaseException.__getattribute__" == Value.builtin "object.__getattribute__") = true) _ _) _ _ _
  rw [n2, if_neg Bool.false_ne_true]; unfold getAttrByItsOwn hookBefore; refine wpAny_bind ?_
  rw [if_pos (show onTheHeap (Value.ref Cl) = true from rfl)]; refine K2.at ?_; refine wpAny_bind <| wpAny_attempt <| wpAny_holding ?_
  unfold callGetattribute; rw [n0, if_neg Bool.false_ne_true]; unfold boundAndCalled; rw [PySem.F.excAttr_ValueError.ga.bind (.ref z)]; refine wpAny_bind <| wpAny_pure ?_
  show wpAny _ _ (call (.builtin "BaseException.__getattribute__") [.ref z, .str "__class__" t]) _ _ _
  refine wpAny_call <| codeAny_call_builtin PySem.F.excAttr_ValueError.ga.plain PySem.F.entry_bexc_ga ?_
  refine @check_slot (model pg wd) _ _ ⟨hh, g, dr, t + 1, os⟩ "BaseException.__getattribute__" "BaseException" "__getattribute__" (.ref z) [.str "__class__" t] [] _ (by decide +kernel) (by decide +kernel) below (PySem.F.args_bexc_ga (.ref z) (.str "__class__" t)) ?_
  unfold Builtin.«object.__getattribute__»; refine wpAny_bind <| wpAny_of_eq (a := ((Value.ref z : Value), [Value.str "__class__" t])) (by first | rfl | (simp only [slotArgs]; rfl)) ?_
  refine wpAny_bind <| wpAny_pure <| wpAny_bind <| K0.at <| wpAny_bind <| K3.at ?_
  show wpAny _ _ (holding [Value.builtin "object.__class__"] (call (.builtin "getset_descriptor.__get__") [.builtin "object.__class__", .ref z, .ref Cl]) >>= ret) _ _ _
  refine wpAny_bind <| wpAny_holding <| wpAny_call <| class_get (s := ⟨hh, g, dr, t + 1, os⟩) (ox := oz) (od := oy) X I c8 ?_
  refine wpAny_pure ?_
  show wpAny _ _ (handedOut (.ref Cl)) _ _ _
  rw [handedOut_of (v := .ref Cl) rfl]
  first
    | exact wpAny_pure (want _)
    | exact wpAny_pure (wpAny_pure (want _))
end
end PySem.W
namespace KR
open PySem PySem.Spec PyProof.Rows L2
/-- a class whose own name, kept since it was made, is nm -/
structure NmC (K : PySem.W.Frag) (C : Addr) (nm : Str) : Prop where
  ro : ∃ (oc : Obj) (tk : Tok), K.lookup C = some oc ∧ oc.cls = .type "type" ∧ (oc.slots[2]?).join = some (.str nm tk)
  rd : PySem.W.readsIn K C (.type "type") = true
  fw : PySem.W.findIn K (.ref C) "word" = some none
  fc : PySem.W.findCls K (.ref C) (.type "type") "__name__" = some (.get (.builtin "getset_descriptor.__get__") (.builtin "type.__name__") (.ref C) (.type "type"))
/-- self.__class__.__name__ of one that is being made -/
def tCnm (K : PySem.W.Frag) (to : TE) : TE := fun σ H Q => to σ H fun x H1 => ∃ (a C d : Addr) (fs : List (Str × V)) (nm : Str), x = .ref a ∧ ExcFacts K C ∧ NmC K C nm ∧ H1 a = some (exo a C (some d)) ∧ H1 d = some (exd d fs) ∧ Q (.str nm) H1
theorem pe_cnm {X : Cx} {o : Expr} {to : TE} {p1 p2 : Pos} (ho : PE X o to) (h1 : attributeBase o "__class__" X.env (eval o X.env) = eval o X.env := by rfl)
    (h2 : attributeBase (.Attribute o "__class__" p1) "__name__" X.env (eval (.Attribute o "__class__" p1) X.env) = eval (.Attribute o "__class__" p1) X.env := by rfl) : PE X (.Attribute (.Attribute o "__class__" p1) "__name__" p2) (tCnm X.K to) := by
  refine ⟨fun pins s σ H Q I ask => ?_⟩
  refine attr_of h2 (attr_of h1 (thn (ho.run pins s σ H _ I ask) fun u s1 got => ?_))
  obtain ⟨x, H1, J, rel, a, C, d, fs, nm, e1, F, N, ha, hd, q⟩ := got
  subst e1
  obtain rfl : u = Value.ref a := rel
  obtain ⟨t1, at_a⟩ := exo_at J.hok ha
  obtain ⟨mA, ns, _⟩ := exd_at J.hok hd
  obtain ⟨od, at_d, _⟩ := lookIn_ns ns
  obtain ⟨oc, tk, lk, ty, sl⟩ := N.ro
  refine PySem.W.own_class J.kIn (oy := some od) ⟨at_a, rfl, rfl, at_d⟩ F.ga F.gg F.sub F.cl F.cls F.get F.tak F.obj fun u1 => ?_
  exact PySem.W.own_name (J.tok u1).kIn N.rd N.fc lk ty sl fun u2 => ⟨.str nm, H1, J.tok u2, ⟨tk, rfl⟩, q⟩
/-- the dict of one that is being made, told twice -/
theorem upd_twice {H : Hp} {a d : Addr} {o1 o2 o3 : HO} (ne : d ≠ a) : upd (upd (upd H d o1) a o2) d o3 = upd (upd H d o3) a o2 := by
  funext b
  by_cases e1 : b = a
  · subst e1
    rw [upd_ne (Ne.symm ne), upd_same, upd_same]
  · by_cases e2 : b = d
    · subst e2
      rw [upd_same, upd_ne e1, upd_same]
    · rw [upd_ne e2, upd_ne e1, upd_ne e2, upd_ne e1, upd_ne e2]
/-- self.what = what; self.word = self.__class__.__name__ -/
theorem init_reads {K : PySem.W.Frag} {C a : Addr} {nm : Str} {v : V} {H : Hp} {D : Ends} (O : OexC K C) (F : ExcFacts K C) (N : NmC K C nm) (ha : H a = some (exo a C none)) (q : ∀ dx, H dx = none → dx ≠ a → D.nx [some (.ref a), some v] (upd (upd H dx (exd dx (wh nm v))) a (exo a C (some dx)))) :
    tSeq (tOst K "what" (tVar 0) (tVar 1)) (tOst K "word" (tVar 0) (tCnm K (tVar 0))) D [some (.ref a), some v] H := by
  refine ⟨_, rfl, _, rfl, a, C, rfl, O, F.fld, .inl ⟨ha, fun dx h1 h2 => ?_⟩⟩
  have e1 : (upd (upd H dx (exd dx [(("what" : Str), v)])) a (exo a C (some dx))) dx = some (exd dx [(("what" : Str), v)]) := by rw [upd_ne h2, upd_same]
  refine ⟨_, rfl, a, C, dx, _, nm, rfl, F, N, upd_same, e1, _, rfl, a, C, rfl, O, N.fw, .inr ⟨dx, _, upd_same, e1, by show 1 ≤ 900; decide, ?_⟩⟩
  rw [upd_twice h2]
  exact q dx h1 h2
end KR
/-! ### an instance that is made, where its own __init__ may raise -/
namespace KR
open PySem PySem.Spec PyProof.Rows L2
theorem passX0 {X : Cx} : Passes (L2.CX X.prog X.w) X E0 := fun pins σ H s1 e s' I z => by
  obtain ⟨a, B, H', cls, d, _, _, _, _, _, _, _, q⟩ := z
  exact q.elim
section
variable {X : Cx} {CX : CXT} {n : Nat} {fI cl : Addr} {fd : FuncData} {names : List Str} {sp : Sp} {E : L2.St → XK} {x : Str} {p pos : Pos} {e : Expr} {es : List Expr} {t : TA}
/-- what is left to be shown of it: __init__ with the new instance ahead -/
def tMakeS (cl : Addr) (sp : Sp) (E : L2.St → XK) (t : TA) : TE := fun σ H Q => t σ H fun vs G => ∀ a da, G a = none → G da = none → da ≠ a → sp (.ref a :: vs) (upd (upd G da (.own a)) a (.ins cl da [])) (fun u J => u = .non ∧ Q (.ref a) J) (E σ)
theorem pe_makeS (mk : Mk X.K cl fI) (F : FnOk X.prog X.w X.K X.mg X.base CX n fI fd names sp) (room : Room (n + 1) X.A) (glob : Gl X x) (here : X.mg x = some (.ref cl)) (bind : Binds X.K fd names []) (pass : ∀ σ, PassesAt CX X σ (E σ)) (args : PA X (e :: es) t)
    (nd : (x == ("__debug__" : Str)) = false := by decide) (st : starEach (e :: es) X.env = (false, eval e X.env) :: starEach es X.env := by rfl) (bk : (backTo pos (starEach es X.env)).any (·.1) = false := by rfl) : PE X (.Call (.Name x p) (e :: es) [] pos) (tMakeS cl sp E t) := by
  constructor
  intro pins s σ H Q I ask
  refine wpAny_Call_Name_kw (ld_glob I glob here (PySem.W.callWith_K (h₀ := X.base) I.ok.mod.kin mk.kp (thn (args.run pos pins s σ H _ I ask) ?_) st bk) nd)
  rintro us s1 ⟨vs, G, J, rel, q⟩
  refine ⟨J.kIn, ?_⟩
  have ask2 := q (s1.heap.objs.size + 1) s1.heap.objs.size (J.hok.fresh (Nat.le_succ _)) (J.hok.fresh (Nat.le_refl _)) (Nat.ne_of_lt (Nat.lt_succ_self _))
  have made := Inv.made (C := cl) J
  have rel2 : Vals (V.ref (s1.heap.objs.size + 1) :: vs) (Value.ref (s1.heap.objs.size + 1) :: us) := .cons rfl rel
  have many : (Value.ref (s1.heap.objs.size + 1) :: us).length = names.length := by rw [← F.len _ _ _ _ ask2]; exact rel2.length.symm
  have bound := bind _ (Value.ref (s1.heap.objs.size + 1) :: us) made.kIn (by rw [List.append_nil]; exact many)
  rw [List.append_nil] at bound
  refine wpAny_call (make_map (f := fI) J.kIn mk.makes mk.init (beq_iff_eq.mp mk.fn) (codeAny_mono (F.run _ X.stack _ _ ⟨Value.ref (s1.heap.objs.size + 1) :: us, []⟩ _ _ _ (E σ) (room.make cl us []) (made.env0.make cl us []) bound rel2 ask2) ?_))
  intro r s2 post
  match r, post with
  | .error er, post => exact pass σ pins _ _ er s2 made post
  | .ok (.ret u), post =>
    obtain ⟨v, H2, J2, rv, ev, q3⟩ := made.after post
    cases ev
    exact ⟨rv, V.ref (s1.heap.objs.size + 1), H2, J2, rfl, q3⟩
  | .ok .next, post => exact post.elim
  | .ok .brk, post => exact post.elim
  | .ok .cont, post => exact post.elim
end
/-- behind a raise all is as it was, beside it the new one's own dict -/
theorem raised_keeps {G : Hp} {a d : Addr} {o1 o2 o3 o4 : HO} (na : G a = none) (ndd : G d = none) : Same G (upd (del (upd (upd (upd G a o1) d o2) a o3) a) d o4) := fun b o e => by
  have ba := ne_of_none e na
  have bd := ne_of_none e ndd
  rw [upd_ne bd, del_ne ba, upd_ne ba, upd_ne bd, upd_ne ba]
  exact e
/-- how a refusal is made: its field what is what it is made with, its field word its class's name -/
def sp_initX (C : Addr) (nm : Str) : Sp := fun vs H Q _ => ∃ (a : Addr) (v : V), vs = [.ref a, v] ∧ H a = some (exo a C none) ∧ ∀ dx, H dx = none → dx ≠ a → Q .non (upd (upd H dx (exd dx (wh nm v))) a (exo a C (some dx)))
end KR
namespace KR
open PySem PySem.Spec PyProof.Rows L2
def top (i : Nat) : Stmt := PySem.Challenge.pw_kettlerow_k15_rows_that_cant_stand.main.body.getD i (.Pass ⟨0, 0, 0, 0⟩)
def clsBody : Stmt → List Stmt
  | .ClassDef (body := b) .. => b
  | _ => []
abbrev s_Row_init : Stmt := (clsBody (top 34)).getD 0 (.Pass ⟨0, 0, 0, 0⟩)
theorem sc_Row_init : FnScope ["self", "kettles", "moulds"] ["self", "kettles", "moulds"] (defScope s_Row_init) := ⟨rfl, rfl, rfl, by decide +kernel, rfl, by decide +kernel, by decide +kernel⟩
abbrev s_p_is_number : Stmt := top 10
theorem sc_p_is_number : FnScope ["thing"] ["thing"] (defScope s_p_is_number) := ⟨rfl, rfl, rfl, by decide +kernel, rfl, by decide +kernel, by decide +kernel⟩
abbrev s_p_is_number_within : Stmt := top 11
theorem sc_p_is_number_within : FnScope ["thing", "least", "most"] ["thing", "least", "most"] (defScope s_p_is_number_within) := ⟨rfl, rfl, rfl, by decide +kernel, rfl, by decide +kernel, by decide +kernel⟩
abbrev s_p_figures_of : Stmt := top 12
theorem sc_p_figures_of : FnScope ["number", "chunks", "chunk"] ["number"] (defScope s_p_figures_of) := ⟨rfl, rfl, rfl, by decide +kernel, rfl, by decide +kernel, by decide +kernel⟩
abbrev s_p_are_figures : Stmt := top 13
theorem sc_p_are_figures : FnScope ["text", "most"] ["text", "most"] (defScope s_p_are_figures) := ⟨rfl, rfl, rfl, by decide +kernel, rfl, by decide +kernel, by decide +kernel⟩
abbrev s_p_number_in : Stmt := top 14
theorem sc_p_number_in : FnScope ["text", "most"] ["text", "most"] (defScope s_p_number_in) := ⟨rfl, rfl, rfl, by decide +kernel, rfl, by decide +kernel, by decide +kernel⟩
abbrev s_p_is_frac : Stmt := top 16
theorem sc_p_is_frac : FnScope ["thing", "top", "bottom"] ["thing"] (defScope s_p_is_frac) := ⟨rfl, rfl, rfl, by decide +kernel, rfl, by decide +kernel, by decide +kernel⟩
abbrev s_p_frac_text : Stmt := top 19
theorem sc_p_frac_text : FnScope ["one", "top", "bottom", "text"] ["one"] (defScope s_p_frac_text) := ⟨rfl, rfl, rfl, by decide +kernel, rfl, by decide +kernel, by decide +kernel⟩
abbrev s_p_frac_in : Stmt := top 20
theorem sc_p_frac_in : FnScope ["text", "one"] ["text"] (defScope s_p_frac_in) := ⟨rfl, rfl, rfl, by decide +kernel, rfl, by decide +kernel, by decide +kernel⟩
abbrev s_p_frac_or_none : Stmt := top 21
theorem sc_p_frac_or_none : FnScope ["text"] ["text"] (defScope s_p_frac_or_none) := ⟨rfl, rfl, rfl, by decide +kernel, rfl, by decide +kernel, by decide +kernel⟩
abbrev s_p__read : Stmt := top 22
theorem sc_p__read : FnScope ["text", "top", "stroke", "bottom"] ["text"] (defScope s_p__read) := ⟨rfl, rfl, rfl, by decide +kernel, rfl, by decide +kernel, by decide +kernel⟩
abbrev s_p_is_name : Stmt := top 25
theorem sc_p_is_name : FnScope ["thing", "letter"] ["thing"] (defScope s_p_is_name) := ⟨rfl, rfl, rfl, by decide +kernel, rfl, by decide +kernel, by decide +kernel⟩
abbrev s_p_are_unlike : Stmt := top 26
theorem sc_p_are_unlike : FnScope ["names"] ["names"] (defScope s_p_are_unlike) := ⟨rfl, rfl, rfl, by decide +kernel, rfl, by decide +kernel, by decide +kernel⟩
abbrev s_p_is_kettle : Stmt := top 35
theorem sc_p_is_kettle : FnScope ["thing", "name", "room", "fire", "mark"] ["thing"] (defScope s_p_is_kettle) := ⟨rfl, rfl, rfl, by decide +kernel, rfl, by decide +kernel, by decide +kernel⟩
abbrev s_p_is_mould : Stmt := top 36
theorem sc_p_is_mould : FnScope ["thing", "name", "room", "drip"] ["thing"] (defScope s_p_is_mould) := ⟨rfl, rfl, rfl, by decide +kernel, rfl, by decide +kernel, by decide +kernel⟩
abbrev s_p__can_be_kettles : Stmt := top 37
theorem sc_p__can_be_kettles : FnScope ["things", "thing"] ["things"] (defScope s_p__can_be_kettles) := ⟨rfl, rfl, rfl, by decide +kernel, rfl, by decide +kernel, by decide +kernel⟩
abbrev s_p__can_be_moulds : Stmt := top 38
theorem sc_p__can_be_moulds : FnScope ["things", "kettles", "thing", "one"] ["things", "kettles"] (defScope s_p__can_be_moulds) := ⟨rfl, rfl, rfl, by decide +kernel, rfl, by decide +kernel, by decide +kernel⟩
abbrev s_p__are_name_and_room : Stmt := top 39
theorem sc_p__are_name_and_room : FnScope ["name", "room"] ["name", "room"] (defScope s_p__are_name_and_room) := ⟨rfl, rfl, rfl, by decide +kernel, rfl, by decide +kernel, by decide +kernel⟩
abbrev s_p__is_mark : Stmt := top 40
theorem sc_p__is_mark : FnScope ["thing"] ["thing"] (defScope s_p__is_mark) := ⟨rfl, rfl, rfl, by decide +kernel, rfl, by decide +kernel, by decide +kernel⟩
abbrev s_p__is_drip : Stmt := top 41
theorem sc_p__is_drip : FnScope ["thing"] ["thing"] (defScope s_p__is_drip) := ⟨rfl, rfl, rfl, by decide +kernel, rfl, by decide +kernel, by decide +kernel⟩
abbrev s_p_row_from : Stmt := top 44
theorem sc_p_row_from : FnScope ["text", "lines", "kettles", "moulds", "number", "line", "thing"] ["text"] (defScope s_p_row_from) := ⟨rfl, rfl, rfl, by decide +kernel, rfl, by decide +kernel, by decide +kernel⟩
abbrev s_p__thing_in : Stmt := top 45
theorem sc_p__thing_in : FnScope ["words", "name", "room", "fire", "mark", "drip"] ["words"] (defScope s_p__thing_in) := ⟨rfl, rfl, rfl, by decide +kernel, rfl, by decide +kernel, by decide +kernel⟩
abbrev s_p__can_stand : Stmt := top 46
theorem sc_p__can_stand : FnScope ["thing", "kettles", "moulds", "fits", "one"] ["thing", "kettles", "moulds"] (defScope s_p__can_stand) := ⟨rfl, rfl, rfl, by decide +kernel, rfl, by decide +kernel, by decide +kernel⟩
abbrev s_l_cell_at : Stmt := top 48
theorem sc_l_cell_at : FnScope ["_law_script", "_law_k"] ["_law_script", "_law_k"] (defScope s_l_cell_at) := ⟨rfl, rfl, rfl, by decide +kernel, rfl, by decide +kernel, by decide +kernel⟩
abbrev s_l_box : Stmt := top 49
theorem sc_l_box : FnScope ["_law_script", "_law_k", "_law_cell"] ["_law_script", "_law_k"] (defScope s_l_box) := ⟨rfl, rfl, rfl, by decide +kernel, rfl, by decide +kernel, by decide +kernel⟩
abbrev s_l_take : Stmt := top 50
theorem sc_l_take : FnScope ["_law_box_here", "_law_many", "_law_found", "_law_once", "_law_twice"] ["_law_box_here", "_law_many"] (defScope s_l_take) := ⟨rfl, rfl, rfl, by decide +kernel, rfl, by decide +kernel, by decide +kernel⟩
abbrev s_l_same : Stmt := top 51
theorem sc_l_same : FnScope ["_law_found", "_law_due", "_law_one", "_law_other", "_law_alike"] ["_law_found", "_law_due"] (defScope s_l_same) := ⟨rfl, rfl, rfl, by decide +kernel, rfl, by decide +kernel, by decide +kernel⟩
abbrev s_l_names : Stmt := top 52
theorem sc_l_names : FnScope ["_law_box_here", "_law_many", "_law_letters", "_law_found", "_law_first", "_law_step", "_law_stem", "_law_tail", "_law_k", "_law_one", "_law_other", "_law_name"] ["_law_box_here", "_law_many"] (defScope s_l_names) := ⟨rfl, rfl, rfl, by decide +kernel, rfl, by decide +kernel, by decide +kernel⟩
abbrev s_l_low : Stmt := top 53
theorem sc_l_low : FnScope ["_law_top", "_law_bottom", "_law_one", "_law_other"] ["_law_top", "_law_bottom"] (defScope s_l_low) := ⟨rfl, rfl, rfl, by decide +kernel, rfl, by decide +kernel, by decide +kernel⟩
abbrev s_l_room : Stmt := top 54
theorem sc_l_room : FnScope ["_law_box_here"] ["_law_box_here"] (defScope s_l_room) := ⟨rfl, rfl, rfl, by decide +kernel, rfl, by decide +kernel, by decide +kernel⟩
abbrev s_l_kettle : Stmt := top 55
theorem sc_l_kettle : FnScope ["_law_box_here", "_law_name", "_law_bottom", "_law_mark", "_law_room_here"] ["_law_box_here", "_law_name"] (defScope s_l_kettle) := ⟨rfl, rfl, rfl, by decide +kernel, rfl, by decide +kernel, by decide +kernel⟩
abbrev s_l_mould : Stmt := top 56
theorem sc_l_mould : FnScope ["_law_box_here", "_law_name", "_law_bottom"] ["_law_box_here", "_law_name"] (defScope s_l_mould) := ⟨rfl, rfl, rfl, by decide +kernel, rfl, by decide +kernel, by decide +kernel⟩
abbrev s_l_row : Stmt := top 57
theorem sc_l_row : FnScope ["_law_box_here", "_law_kettles", "_law_moulds", "_law_names_here", "_law_found", "_law_name"] ["_law_box_here", "_law_kettles", "_law_moulds"] (defScope s_l_row) := ⟨rfl, rfl, rfl, by decide +kernel, rfl, by decide +kernel, by decide +kernel⟩
abbrev s_l_is_name : Stmt := top 59
theorem sc_l_is_name : FnScope ["_law_thing", "_law_sign"] ["_law_thing"] (defScope s_l_is_name) := ⟨rfl, rfl, rfl, by decide +kernel, rfl, by decide +kernel, by decide +kernel⟩
abbrev s_l_is_number : Stmt := top 60
theorem sc_l_is_number : FnScope ["_law_thing"] ["_law_thing"] (defScope s_l_is_number) := ⟨rfl, rfl, rfl, by decide +kernel, rfl, by decide +kernel, by decide +kernel⟩
abbrev s_l_is_frac : Stmt := top 61
theorem sc_l_is_frac : FnScope ["_law_thing", "_law_part"] ["_law_thing"] (defScope s_l_is_frac) := ⟨rfl, rfl, rfl, by decide +kernel, rfl, by decide +kernel, by decide +kernel⟩
abbrev s_l_is_pot : Stmt := top 62
theorem sc_l_is_pot : FnScope ["_law_thing", "_law_parts", "_law_top", "_law_bottom"] ["_law_thing", "_law_parts"] (defScope s_l_is_pot) := ⟨rfl, rfl, rfl, by decide +kernel, rfl, by decide +kernel, by decide +kernel⟩
abbrev s_l_frac_text : Stmt := top 63
theorem sc_l_frac_text : FnScope ["_law_one"] ["_law_one"] (defScope s_l_frac_text) := ⟨rfl, rfl, rfl, by decide +kernel, rfl, by decide +kernel, by decide +kernel⟩
abbrev s_l_rows : Stmt := top 64
theorem sc_l_rows : FnScope ["_law_kettles", "_law_moulds", "_law_found", "_law_name", "_law_room_here", "_law_fire", "_law_mark", "_law_drip"] ["_law_kettles", "_law_moulds"] (defScope s_l_rows) := ⟨rfl, rfl, rfl, by decide +kernel, rfl, by decide +kernel, by decide +kernel⟩
abbrev s_l_refused : Stmt := top 65
theorem sc_l_refused : FnScope ["_law_text", "_law_caught", "error"] ["_law_text"] (defScope s_l_refused) := ⟨rfl, rfl, rfl, by decide +kernel, rfl, by decide +kernel, by decide +kernel⟩
abbrev s_l_read_row : Stmt := top 66
theorem sc_l_read_row : FnScope ["_law_text", "_law_words", "_law_sort", "_law_parts", "_law_word"] ["_law_text"] (defScope s_l_read_row) := ⟨rfl, rfl, rfl, by decide +kernel, rfl, by decide +kernel, by decide +kernel⟩
abbrev s_l_figures : Stmt := top 67
theorem sc_l_figures : FnScope ["_law_word", "_law_sign"] ["_law_word"] (defScope s_l_figures) := ⟨rfl, rfl, rfl, by decide +kernel, rfl, by decide +kernel, by decide +kernel⟩
abbrev s_l_read_frac : Stmt := top 68
theorem sc_l_read_frac : FnScope ["_law_word", "_law_words", "_law_numbers", "_law_one", "_law_found"] ["_law_word"] (defScope s_l_read_frac) := ⟨rfl, rfl, rfl, by decide +kernel, rfl, by decide +kernel, by decide +kernel⟩
abbrev s_l_read : Stmt := top 69
theorem sc_l_read : FnScope ["_law_text", "_law_pots", "_law_number", "_law_one", "_law_told", "_law_pot"] ["_law_text"] (defScope s_l_read) := ⟨rfl, rfl, rfl, by decide +kernel, rfl, by decide +kernel, by decide +kernel⟩
abbrev s_l_right : Stmt := top 70
theorem sc_l_right : FnScope ["_law_text", "_law_due", "_law_told"] ["_law_text"] (defScope s_l_right) := ⟨rfl, rfl, rfl, by decide +kernel, rfl, by decide +kernel, by decide +kernel⟩
abbrev s_l_wrong : Stmt := top 71
theorem sc_l_wrong : FnScope ["_law_words", "_law_ahead", "_law_some", "_law_fracs", "_law_numbers", "_law_one", "_law_name"] ["_law_words", "_law_ahead"] (defScope s_l_wrong) := ⟨rfl, rfl, rfl, by decide +kernel, rfl, by decide +kernel, by decide +kernel⟩
abbrev s_l_by_hand : Stmt := top 72
theorem sc_l_by_hand : FnScope ["_law_kettles", "_law_moulds", "_law_rows_here", "_law_head", "_law_more", "_law_one", "_law_forms", "_law_other", "_law_texts", "_law_some", "_law_due"] ["_law_kettles", "_law_moulds"] (defScope s_l_by_hand) := ⟨rfl, rfl, rfl, by decide +kernel, rfl, by decide +kernel, by decide +kernel⟩
abbrev s_p_law : Stmt := top 73
theorem sc_p_law : FnScope ["_law_script", "_law_k", "_law_box_here", "_law_kettles", "_law_moulds", "_law_rows_here", "_law_names_here", "_law_one", "_law_at", "_law_wrong_here", "_law_some", "_law_other"] ["_law_script"] (defScope s_p_law) := ⟨rfl, rfl, rfl, by decide +kernel, rfl, by decide +kernel, by decide +kernel⟩
abbrev s_init_BadRow : Stmt := (clsBody (top 6)).getD 0 (.Pass ⟨0, 0, 0, 0⟩)
theorem sc_init_BadRow : FnScope ["self", "what"] ["self", "what"] (defScope s_init_BadRow) := ⟨rfl, rfl, rfl, by decide +kernel, rfl, by decide +kernel, by decide +kernel⟩
abbrev s_init_BadKettles : Stmt := (clsBody (top 4)).getD 0 (.Pass ⟨0, 0, 0, 0⟩)
theorem sc_init_BadKettles : FnScope ["self", "what"] ["self", "what"] (defScope s_init_BadKettles) := ⟨rfl, rfl, rfl, by decide +kernel, rfl, by decide +kernel, by decide +kernel⟩
abbrev s_init_BadMoulds : Stmt := (clsBody (top 5)).getD 0 (.Pass ⟨0, 0, 0, 0⟩)
theorem sc_init_BadMoulds : FnScope ["self", "what"] ["self", "what"] (defScope s_init_BadMoulds) := ⟨rfl, rfl, rfl, by decide +kernel, rfl, by decide +kernel, by decide +kernel⟩
abbrev s_init_BadFrac : Stmt := (clsBody (top 3)).getD 0 (.Pass ⟨0, 0, 0, 0⟩)
theorem sc_init_BadFrac : FnScope ["self", "what"] ["self", "what"] (defScope s_init_BadFrac) := ⟨rfl, rfl, rfl, by decide +kernel, rfl, by decide +kernel, by decide +kernel⟩
structure All (K : PySem.W.Frag) (mg : Str → Option Value) where
  f_Row_init : Addr
  fd_Row_init : FuncData
  F_Row_init : Fun K "__init__" "Row.__init__" s_Row_init f_Row_init fd_Row_init
  b_Row_init : Binds K fd_Row_init ["self", "kettles", "moulds"] []
  f_p_is_number : Addr
  fd_p_is_number : FuncData
  d_p_is_number : Def K mg "is_number" s_p_is_number f_p_is_number fd_p_is_number ["thing"]
  f_p_is_number_within : Addr
  fd_p_is_number_within : FuncData
  d_p_is_number_within : Def K mg "is_number_within" s_p_is_number_within f_p_is_number_within fd_p_is_number_within ["thing", "least", "most"]
  f_p_figures_of : Addr
  fd_p_figures_of : FuncData
  d_p_figures_of : Def K mg "figures_of" s_p_figures_of f_p_figures_of fd_p_figures_of ["number"]
  f_p_are_figures : Addr
  fd_p_are_figures : FuncData
  d_p_are_figures : Def K mg "are_figures" s_p_are_figures f_p_are_figures fd_p_are_figures ["text", "most"]
  f_p_number_in : Addr
  fd_p_number_in : FuncData
  d_p_number_in : Def K mg "number_in" s_p_number_in f_p_number_in fd_p_number_in ["text", "most"]
  f_p_is_frac : Addr
  fd_p_is_frac : FuncData
  d_p_is_frac : Def K mg "is_frac" s_p_is_frac f_p_is_frac fd_p_is_frac ["thing"]
  f_p_frac_text : Addr
  fd_p_frac_text : FuncData
  d_p_frac_text : Def K mg "frac_text" s_p_frac_text f_p_frac_text fd_p_frac_text ["one"]
  f_p_frac_in : Addr
  fd_p_frac_in : FuncData
  d_p_frac_in : Def K mg "frac_in" s_p_frac_in f_p_frac_in fd_p_frac_in ["text"]
  f_p_frac_or_none : Addr
  fd_p_frac_or_none : FuncData
  d_p_frac_or_none : Def K mg "frac_or_none" s_p_frac_or_none f_p_frac_or_none fd_p_frac_or_none ["text"]
  f_p__read : Addr
  fd_p__read : FuncData
  d_p__read : Def K mg "_read" s_p__read f_p__read fd_p__read ["text"]
  f_p_is_name : Addr
  fd_p_is_name : FuncData
  d_p_is_name : Def K mg "is_name" s_p_is_name f_p_is_name fd_p_is_name ["thing"]
  f_p_are_unlike : Addr
  fd_p_are_unlike : FuncData
  d_p_are_unlike : Def K mg "are_unlike" s_p_are_unlike f_p_are_unlike fd_p_are_unlike ["names"]
  f_p_is_kettle : Addr
  fd_p_is_kettle : FuncData
  d_p_is_kettle : Def K mg "is_kettle" s_p_is_kettle f_p_is_kettle fd_p_is_kettle ["thing"]
  f_p_is_mould : Addr
  fd_p_is_mould : FuncData
  d_p_is_mould : Def K mg "is_mould" s_p_is_mould f_p_is_mould fd_p_is_mould ["thing"]
  f_p__can_be_kettles : Addr
  fd_p__can_be_kettles : FuncData
  d_p__can_be_kettles : Def K mg "_can_be_kettles" s_p__can_be_kettles f_p__can_be_kettles fd_p__can_be_kettles ["things"]
  f_p__can_be_moulds : Addr
  fd_p__can_be_moulds : FuncData
  d_p__can_be_moulds : Def K mg "_can_be_moulds" s_p__can_be_moulds f_p__can_be_moulds fd_p__can_be_moulds ["things", "kettles"]
  f_p__are_name_and_room : Addr
  fd_p__are_name_and_room : FuncData
  d_p__are_name_and_room : Def K mg "_are_name_and_room" s_p__are_name_and_room f_p__are_name_and_room fd_p__are_name_and_room ["name", "room"]
  f_p__is_mark : Addr
  fd_p__is_mark : FuncData
  d_p__is_mark : Def K mg "_is_mark" s_p__is_mark f_p__is_mark fd_p__is_mark ["thing"]
  f_p__is_drip : Addr
  fd_p__is_drip : FuncData
  d_p__is_drip : Def K mg "_is_drip" s_p__is_drip f_p__is_drip fd_p__is_drip ["thing"]
  f_p_row_from : Addr
  fd_p_row_from : FuncData
  d_p_row_from : Def K mg "row_from" s_p_row_from f_p_row_from fd_p_row_from ["text"]
  f_p__thing_in : Addr
  fd_p__thing_in : FuncData
  d_p__thing_in : Def K mg "_thing_in" s_p__thing_in f_p__thing_in fd_p__thing_in ["words"]
  f_p__can_stand : Addr
  fd_p__can_stand : FuncData
  d_p__can_stand : Def K mg "_can_stand" s_p__can_stand f_p__can_stand fd_p__can_stand ["thing", "kettles", "moulds"]
  f_l_cell_at : Addr
  fd_l_cell_at : FuncData
  d_l_cell_at : Def K mg "_law_cell_at" s_l_cell_at f_l_cell_at fd_l_cell_at ["_law_script", "_law_k"]
  f_l_box : Addr
  fd_l_box : FuncData
  d_l_box : Def K mg "_law_box" s_l_box f_l_box fd_l_box ["_law_script", "_law_k"]
  f_l_take : Addr
  fd_l_take : FuncData
  d_l_take : Def K mg "_law_take" s_l_take f_l_take fd_l_take ["_law_box_here", "_law_many"]
  f_l_same : Addr
  fd_l_same : FuncData
  d_l_same : Def K mg "_law_same" s_l_same f_l_same fd_l_same ["_law_found", "_law_due"]
  f_l_names : Addr
  fd_l_names : FuncData
  d_l_names : Def K mg "_law_names" s_l_names f_l_names fd_l_names ["_law_box_here", "_law_many"]
  f_l_low : Addr
  fd_l_low : FuncData
  d_l_low : Def K mg "_law_low" s_l_low f_l_low fd_l_low ["_law_top", "_law_bottom"]
  f_l_room : Addr
  fd_l_room : FuncData
  d_l_room : Def K mg "_law_room" s_l_room f_l_room fd_l_room ["_law_box_here"]
  f_l_kettle : Addr
  fd_l_kettle : FuncData
  d_l_kettle : Def K mg "_law_kettle" s_l_kettle f_l_kettle fd_l_kettle ["_law_box_here", "_law_name"]
  f_l_mould : Addr
  fd_l_mould : FuncData
  d_l_mould : Def K mg "_law_mould" s_l_mould f_l_mould fd_l_mould ["_law_box_here", "_law_name"]
  f_l_row : Addr
  fd_l_row : FuncData
  d_l_row : Def K mg "_law_row" s_l_row f_l_row fd_l_row ["_law_box_here", "_law_kettles", "_law_moulds"]
  f_l_is_name : Addr
  fd_l_is_name : FuncData
  d_l_is_name : Def K mg "_law_is_name" s_l_is_name f_l_is_name fd_l_is_name ["_law_thing"]
  f_l_is_number : Addr
  fd_l_is_number : FuncData
  d_l_is_number : Def K mg "_law_is_number" s_l_is_number f_l_is_number fd_l_is_number ["_law_thing"]
  f_l_is_frac : Addr
  fd_l_is_frac : FuncData
  d_l_is_frac : Def K mg "_law_is_frac" s_l_is_frac f_l_is_frac fd_l_is_frac ["_law_thing"]
  f_l_is_pot : Addr
  fd_l_is_pot : FuncData
  d_l_is_pot : Def K mg "_law_is_pot" s_l_is_pot f_l_is_pot fd_l_is_pot ["_law_thing", "_law_parts"]
  f_l_frac_text : Addr
  fd_l_frac_text : FuncData
  d_l_frac_text : Def K mg "_law_frac_text" s_l_frac_text f_l_frac_text fd_l_frac_text ["_law_one"]
  f_l_rows : Addr
  fd_l_rows : FuncData
  d_l_rows : Def K mg "_law_rows" s_l_rows f_l_rows fd_l_rows ["_law_kettles", "_law_moulds"]
  f_l_refused : Addr
  fd_l_refused : FuncData
  d_l_refused : Def K mg "_law_refused" s_l_refused f_l_refused fd_l_refused ["_law_text"]
  f_l_read_row : Addr
  fd_l_read_row : FuncData
  d_l_read_row : Def K mg "_law_read_row" s_l_read_row f_l_read_row fd_l_read_row ["_law_text"]
  f_l_figures : Addr
  fd_l_figures : FuncData
  d_l_figures : Def K mg "_law_figures" s_l_figures f_l_figures fd_l_figures ["_law_word"]
  f_l_read_frac : Addr
  fd_l_read_frac : FuncData
  d_l_read_frac : Def K mg "_law_read_frac" s_l_read_frac f_l_read_frac fd_l_read_frac ["_law_word"]
  f_l_read : Addr
  fd_l_read : FuncData
  d_l_read : Def K mg "_law_read" s_l_read f_l_read fd_l_read ["_law_text"]
  f_l_right : Addr
  fd_l_right : FuncData
  d_l_right : Def K mg "_law_right" s_l_right f_l_right fd_l_right ["_law_text"]
  f_l_wrong : Addr
  fd_l_wrong : FuncData
  d_l_wrong : Def K mg "_law_wrong" s_l_wrong f_l_wrong fd_l_wrong ["_law_words", "_law_ahead"]
  f_l_by_hand : Addr
  fd_l_by_hand : FuncData
  d_l_by_hand : Def K mg "_law_by_hand" s_l_by_hand f_l_by_hand fd_l_by_hand ["_law_kettles", "_law_moulds"]
  f_p_law : Addr
  fd_p_law : FuncData
  d_p_law : Def K mg "law" s_p_law f_p_law fd_p_law ["_law_script"]
  b_ValueError : mg "ValueError" = none
  b_abs : mg "abs" = none
  b_all : mg "all" = none
  b_bool : mg "bool" = none
  b_dict : mg "dict" = none
  b_divmod : mg "divmod" = none
  b_enumerate : mg "enumerate" = none
  b_int : mg "int" = none
  b_isinstance : mg "isinstance" = none
  b_len : mg "len" = none
  b_list : mg "list" = none
  b_max : mg "max" = none
  b_min : mg "min" = none
  b_range : mg "range" = none
  b_reversed : mg "reversed" = none
  b_set : mg "set" = none
  b_str : mg "str" = none
  b_tuple : mg "tuple" = none
  b_zip : mg "zip" = none
  m_gcd : mg "gcd" = some (.builtin "math.gcd")
  t_MOST_LETTERS : Tok
  c_MOST_LETTERS : mg "MOST_LETTERS" = some (.int 8 t_MOST_LETTERS)
  t_MOST_KETTLES : Tok
  c_MOST_KETTLES : mg "MOST_KETTLES" = some (.int 8 t_MOST_KETTLES)
  t_MOST_MOULDS : Tok
  c_MOST_MOULDS : mg "MOST_MOULDS" = some (.int 40 t_MOST_MOULDS)
  t_MOST_ROOM : Tok
  c_MOST_ROOM : mg "MOST_ROOM" = some (.int 1000000 t_MOST_ROOM)
  t_MOST_FIRE : Tok
  c_MOST_FIRE : mg "MOST_FIRE" = some (.int 10000 t_MOST_FIRE)
  t_MOST_MARK_BOTTOM : Tok
  c_MOST_MARK_BOTTOM : mg "MOST_MARK_BOTTOM" = some (.int 60 t_MOST_MARK_BOTTOM)
  t_MOST_DRIP_BOTTOM : Tok
  c_MOST_DRIP_BOTTOM : mg "MOST_DRIP_BOTTOM" = some (.int 12 t_MOST_DRIP_BOTTOM)
  t_CHUNK : Tok
  c_CHUNK : mg "CHUNK" = some (.int 10000000000000000000000000000000000000000000000000000000000000000 t_CHUNK)
  t_MOST_FIGURES_fractext : Tok
  c_MOST_FIGURES_fractext : mg "MOST_FIGURES_fractext" = some (.int 40 t_MOST_FIGURES_fractext)
  t_MOST_FIGURES_rowtext : Tok
  c_MOST_FIGURES_rowtext : mg "MOST_FIGURES_rowtext" = some (.int 7 t_MOST_FIGURES_rowtext)
  C_BoilError : Addr
  g_BoilError : mg "BoilError" = some (.ref C_BoilError)
  C_BadRow : Addr
  g_BadRow : mg "BadRow" = some (.ref C_BadRow)
  C_BadKettles : Addr
  g_BadKettles : mg "BadKettles" = some (.ref C_BadKettles)
  C_BadMoulds : Addr
  g_BadMoulds : mg "BadMoulds" = some (.ref C_BadMoulds)
  C_BadFrac : Addr
  g_BadFrac : mg "BadFrac" = some (.ref C_BadFrac)
  O_BadRow : OexC K C_BadRow
  fI_BadRow : Addr
  fdI_BadRow : FuncData
  i_BadRow : PySem.W.findIn K (.ref C_BadRow) "__init__" = some (some (.ref fI_BadRow))
  tI_BadRow : PySem.W.typeIn K (.ref fI_BadRow) = some (.type "function")
  FI_BadRow : Fun K "__init__" "BadRow.__init__" s_init_BadRow fI_BadRow fdI_BadRow
  bI_BadRow : Binds K fdI_BadRow ["self", "what"] []
  E_BadRow : ExcFacts K C_BadRow
  N_BadRow : NmC K C_BadRow "BadRow"
  O_BadKettles : OexC K C_BadKettles
  fI_BadKettles : Addr
  fdI_BadKettles : FuncData
  i_BadKettles : PySem.W.findIn K (.ref C_BadKettles) "__init__" = some (some (.ref fI_BadKettles))
  tI_BadKettles : PySem.W.typeIn K (.ref fI_BadKettles) = some (.type "function")
  FI_BadKettles : Fun K "__init__" "BadKettles.__init__" s_init_BadKettles fI_BadKettles fdI_BadKettles
  bI_BadKettles : Binds K fdI_BadKettles ["self", "what"] []
  E_BadKettles : ExcFacts K C_BadKettles
  N_BadKettles : NmC K C_BadKettles "BadKettles"
  O_BadMoulds : OexC K C_BadMoulds
  fI_BadMoulds : Addr
  fdI_BadMoulds : FuncData
  i_BadMoulds : PySem.W.findIn K (.ref C_BadMoulds) "__init__" = some (some (.ref fI_BadMoulds))
  tI_BadMoulds : PySem.W.typeIn K (.ref fI_BadMoulds) = some (.type "function")
  FI_BadMoulds : Fun K "__init__" "BadMoulds.__init__" s_init_BadMoulds fI_BadMoulds fdI_BadMoulds
  bI_BadMoulds : Binds K fdI_BadMoulds ["self", "what"] []
  E_BadMoulds : ExcFacts K C_BadMoulds
  N_BadMoulds : NmC K C_BadMoulds "BadMoulds"
  O_BadFrac : OexC K C_BadFrac
  fI_BadFrac : Addr
  fdI_BadFrac : FuncData
  i_BadFrac : PySem.W.findIn K (.ref C_BadFrac) "__init__" = some (some (.ref fI_BadFrac))
  tI_BadFrac : PySem.W.typeIn K (.ref fI_BadFrac) = some (.type "function")
  FI_BadFrac : Fun K "__init__" "BadFrac.__init__" s_init_BadFrac fI_BadFrac fdI_BadFrac
  bI_BadFrac : Binds K fdI_BadFrac ["self", "what"] []
  E_BadFrac : ExcFacts K C_BadFrac
  N_BadFrac : NmC K C_BadFrac "BadFrac"
  te : PySem.W.exmOne K (.ref C_BadRow) (.ref C_BoilError) = some true
  teF : PySem.W.exmOne K (.ref C_BadFrac) (.ref C_BadFrac) = some true
  k3 : PySem.W.kitAny K (.ref C_BadRow) [.ref C_BadFrac, .ref C_BadKettles, .ref C_BadMoulds] = some false
  kV : PySem.W.kitOne K (.ref C_BadRow) (.type "ValueError") = some true
  kF : PySem.W.kitOne K (.ref C_BadRow) (.ref C_BadRow) = some true
  C_Row : Addr
  g_Row : mg "Row" = some (.ref C_Row)
  M_Row : Mk K C_Row f_Row_init
  L_Row : Cls K C_Row
  n_Row_kettles : NoAttr K C_Row "kettles"
  n_Row_moulds : NoAttr K C_Row "moulds"
  c_p_is_name : Addr
  P_p_is_name : Addr
  k_p_is_name : FunC K "is_name" "is_name" s_p_is_name f_p_is_name fd_p_is_name c_p_is_name
  c_p__can_be_kettles : Addr
  P_p__can_be_kettles : Addr
  k_p__can_be_kettles : FunC K "_can_be_kettles" "_can_be_kettles" s_p__can_be_kettles f_p__can_be_kettles fd_p__can_be_kettles c_p__can_be_kettles
  c_p__can_be_moulds : Addr
  P_p__can_be_moulds : Addr
  k_p__can_be_moulds : FunC K "_can_be_moulds" "_can_be_moulds" s_p__can_be_moulds f_p__can_be_moulds fd_p__can_be_moulds c_p__can_be_moulds
theorem ok_init_BadRow {P : Program} {w : World} {K : PySem.W.Frag} {mg : Str → Option Value} {base : Heap} (T : All K mg) : FnOk P w K mg base CX0 1 T.fI_BadRow T.fdI_BadRow ["self", "what"] (sp_initX T.C_BadRow "BadRow") := by
  refine T.FI_BadRow.ok sc_init_BadRow (fun vs H Q E h => ?_) (fun cdv A outer s H vs Q E hr h => ?_)
  · obtain ⟨a, v, rfl, _⟩ := h
    rfl
  · obtain ⟨a, v, rfl, ha, q⟩ := h
    exact ⟨_, pss_cons (ps_ost (pv 0) (pv 1)) (pss_one (ps_ost (pv 0) (pe_cnm (pv 0)))), init_reads T.O_BadRow T.E_BadRow T.N_BadRow ha fun dx h1 h2 => q dx h1 h2⟩
theorem ok_init_BadKettles {P : Program} {w : World} {K : PySem.W.Frag} {mg : Str → Option Value} {base : Heap} (T : All K mg) : FnOk P w K mg base CX0 1 T.fI_BadKettles T.fdI_BadKettles ["self", "what"] (sp_initX T.C_BadKettles "BadKettles") := by
  refine T.FI_BadKettles.ok sc_init_BadKettles (fun vs H Q E h => ?_) (fun cdv A outer s H vs Q E hr h => ?_)
  · obtain ⟨a, v, rfl, _⟩ := h
    rfl
  · obtain ⟨a, v, rfl, ha, q⟩ := h
    exact ⟨_, pss_cons (ps_ost (pv 0) (pv 1)) (pss_one (ps_ost (pv 0) (pe_cnm (pv 0)))), init_reads T.O_BadKettles T.E_BadKettles T.N_BadKettles ha fun dx h1 h2 => q dx h1 h2⟩
theorem ok_init_BadMoulds {P : Program} {w : World} {K : PySem.W.Frag} {mg : Str → Option Value} {base : Heap} (T : All K mg) : FnOk P w K mg base CX0 1 T.fI_BadMoulds T.fdI_BadMoulds ["self", "what"] (sp_initX T.C_BadMoulds "BadMoulds") := by
  refine T.FI_BadMoulds.ok sc_init_BadMoulds (fun vs H Q E h => ?_) (fun cdv A outer s H vs Q E hr h => ?_)
  · obtain ⟨a, v, rfl, _⟩ := h
    rfl
  · obtain ⟨a, v, rfl, ha, q⟩ := h
    exact ⟨_, pss_cons (ps_ost (pv 0) (pv 1)) (pss_one (ps_ost (pv 0) (pe_cnm (pv 0)))), init_reads T.O_BadMoulds T.E_BadMoulds T.N_BadMoulds ha fun dx h1 h2 => q dx h1 h2⟩
theorem ok_init_BadFrac {P : Program} {w : World} {K : PySem.W.Frag} {mg : Str → Option Value} {base : Heap} (T : All K mg) : FnOk P w K mg base CX0 1 T.fI_BadFrac T.fdI_BadFrac ["self", "what"] (sp_initX T.C_BadFrac "BadFrac") := by
  refine T.FI_BadFrac.ok sc_init_BadFrac (fun vs H Q E h => ?_) (fun cdv A outer s H vs Q E hr h => ?_)
  · obtain ⟨a, v, rfl, _⟩ := h
    rfl
  · obtain ⟨a, v, rfl, ha, q⟩ := h
    exact ⟨_, pss_cons (ps_ost (pv 0) (pv 1)) (pss_one (ps_ost (pv 0) (pe_cnm (pv 0)))), init_reads T.O_BadFrac T.E_BadFrac T.N_BadFrac ha fun dx h1 h2 => q dx h1 h2⟩
def All.Ps {K : PySem.W.Frag} {mg : Str → Option Value} (T : All K mg) : List Addr := [T.P_p_is_name, T.P_p__can_be_kettles, T.P_p__can_be_moulds]
structure Tabs {K : PySem.W.Frag} {mg : Str → Option Value} (T : All K mg) (base : Heap) : Prop where
  t_p_is_name : GxR.TabB base mg T.c_p_is_name T.P_p_is_name
  t_p__can_be_kettles : GxR.TabB base mg T.c_p__can_be_kettles T.P_p__can_be_kettles
  t_p__can_be_moulds : GxR.TabB base mg T.c_p__can_be_moulds T.P_p__can_be_moulds
end KR
namespace KR
open PySem PySem.Spec PyProof.Rows L2
section
variable {P : Program} {w : World} {K : PySem.W.Frag} {mg : Str → Option Value} {base : Heap}
def sp_l_cell_at (K : PySem.W.Frag) : Sp := fun vs H Q _ => ∃ (a : Addr) (ns : List Int) (k : Int), vs = [.ref a, .int k] ∧ SqL K H a (ns.map V.int) ∧ 0 ≤ k ∧ ∀ z : Int, Q (.int z) H
theorem ok_l_cell_at (T : All K mg) : FnOk P w K mg base CX0 1 T.f_l_cell_at T.fd_l_cell_at ["_law_script", "_law_k"] (sp_l_cell_at K) := by
  refine T.d_l_cell_at.fn.ok sc_l_cell_at (fun vs H Q E h => ?_) (fun cdv A outer s H vs Q E hr h => ?_)
  · obtain ⟨a, ns, k, rfl, _⟩ := h
    rfl
  · obtain ⟨a, ns, k, rfl, hS, h0, q⟩ := h
    refine ⟨_, (pss_cons (ps_if (pt_cmpR op_lt (pv 1) (pe_callB (lenQ (K := K) rfl) (by rfl) T.b_len PySem.boot_len (pa_cons (pv 0) pa_nil)) (nomark _)) (pss_one (ps_ret (pe_ix (ixL (K := K) rfl) (pv 0) (pv 1) (fun _ _ => rfl)))) pss_nil)
      (pss_one (ps_ret pe_int))), ?_⟩
    refine ⟨_, rfl, _, rfl, a, _, rfl, .inl hS, _, _, rfl, rfl, _, rfl, ite2 (fun c => ?_) (fun c => ?_)⟩
    · have c1 : k < ((ns.map V.int).length : Int) := of_decide_eq_true c
      rw [List.length_map] at c1
      refine ⟨_, rfl, _, rfl, a, _, k, _, rfl, rfl, hS, at_of (j := k.toNat) (by omega) (by rw [List.getElem?_map, List.getElem?_eq_getElem (show k.toNat < ns.length by omega)]; rfl), ?_⟩
      exact q _
    · exact q _

end
end KR
namespace KR
open PySem PySem.Spec PyProof.Rows L2
section
variable {P : Program} {w : World} {K : PySem.W.Frag} {mg : Str → Option Value} {base : Heap}
def sp_l_box (K : PySem.W.Frag) : Sp := fun vs H Q _ => ∃ (a : Addr) (ns : List Int) (k : Int), vs = [.ref a, .int k] ∧ SqL K H a (ns.map V.int) ∧ 0 ≤ k ∧ k ≤ 63 ∧ ∀ p H', Same H H' → H p = none → BoxAt H' p 0 → Q (.ref p) H'
theorem ok_l_box (T : All K mg) : FnOk P w K mg base CX0 2 T.f_l_box T.fd_l_box ["_law_script", "_law_k"] (sp_l_box K) := by
  refine T.d_l_box.fn.ok sc_l_box (fun vs H Q E h => ?_) (fun cdv A outer s H vs Q E hr h => ?_)
  · obtain ⟨a, ns, k, rfl, _⟩ := h
    rfl
  · obtain ⟨a, ns, k, rfl, hS, h0, h1, q⟩ := h
    refine ⟨_, (pss_cons (ps_set (i := 2) sc_l_box.nd rfl (by first | exact Or.inl rfl | exact Or.inr rfl) (pe_call (ok_l_cell_at T) hr (by rfl) T.d_l_cell_at.mg T.d_l_cell_at.fn.kp T.d_l_cell_at.b .nil pass0 (pa_cons (pv 0) (pa_cons (pv 1) pa_nil))))
      (pss_one (ps_ret (pe_lstI (pa_cons (pe_op op_mulX (pe_callB call_abs (by rfl) T.b_abs (by decide +kernel) (pa_cons (pv 2) pa_nil)) (pe_callTy call_int1 (by rfl) T.b_int (by decide +kernel) (pa_cons (pe_cmpR op_ge (pe_callB call_abs (by rfl) T.b_abs (by decide +kernel) (pa_cons (pv 2) pa_nil)) (pe_op op_pow pe_int pe_int) (nomark _)) pa_nil))) (pa_cons (pe_op op_add (pe_op op_add (pe_op op_mod (pv 2) pe_int) (pe_op op_mulX pe_int (pv 1))) pe_int) (pa_cons pe_int pa_nil))))))), ?_⟩
    refine ⟨_, rfl, _, rfl, a, ns, k, rfl, hS, h0, fun z => ?_⟩
    refine ⟨_, rfl, _, rfl, _, rfl, _, rfl, _, _, rfl, rfl, ⟨by decide, by decide, by decide⟩, _, _, rfl, rfl, .inr ⟨_, rfl, ?_⟩⟩
    refine ⟨_, _, rfl, rfl, mulR bit_lt, ?_⟩
    refine ⟨_, rfl, _, _, rfl, rfl, (by show (0 : Int) < 2305843009213693951; decide), _, rfl, _, _, rfl, rfl, mulL (by decide), _, _, rfl, rfl, _, _, rfl, rfl, rfl, fun p H1 s1 hp h1 => ?_⟩
    refine q p _ s1 hp ⟨_, _, _, h1, ?_, ?_, ?_, by decide, by decide⟩
    · refine Int.mul_nonneg (by split <;> omega) bit_nn
    · omega
    · omega

end
end KR
namespace KR
open PySem PySem.Spec PyProof.Rows L2
section
variable {P : Program} {w : World} {K : PySem.W.Frag} {mg : Str → Option Value} {base : Heap}
def sp_l_take : Sp := fun vs H Q _ => ∃ (p : Addr) (m : Int) (n : Nat), vs = [.ref p, .int m] ∧ BoxAt H p n ∧ n ≤ 1000000000 ∧ 0 < m ∧ m.natAbs < 2 ^ 200 ∧ ∀ (z : Int) (H' : Hp), 0 ≤ z → z < m → BoxAt H' p (n + 1) → Fr p H H' → Q (.int z) H'
theorem ok_l_take (T : All K mg) : FnOk P w K mg base CX0 1 T.f_l_take T.fd_l_take ["_law_box_here", "_law_many"] sp_l_take := by
  refine T.d_l_take.fn.ok sc_l_take (fun vs H Q E h => ?_) (fun cdv A outer s H vs Q E hr h => ?_)
  · obtain ⟨p, m, n, rfl, _⟩ := h
    rfl
  · obtain ⟨p, m, n, rfl, hB, hn, h0, hm, q⟩ := h
    obtain ⟨a, b, c, hp, ha, hb, hb2, hc, hcn⟩ := hB
    refine ⟨_, (pss_cons (ps_if (pt_cmpR op_gt (pe_ix (ixL (K := K) rfl) (pv 0) pe_int (fun _ _ => rfl)) pe_int (nomark _)) (pss_cons (ps_set (i := 2) sc_l_take.nd rfl (by first | exact Or.inl rfl | exact Or.inr rfl) (pe_op op_mod (pe_ix (ixL (K := K) rfl) (pv 0) pe_int (fun _ _ => rfl)) (pv 1)))
      (pss_cons (ps_asg (pe_op op_fdivW (pe_ix (ixL (K := K) rfl) (pv 0) pe_int (fun _ _ => rfl)) (pv 1)) (pg_sub (pv 0) pe_int set_list))
      (pss_one (ps_ret (pv 2))))) pss_nil)
      (pss_cons (ps_asg (pe_op op_add (pe_ix (ixL (K := K) rfl) (pv 0) pe_int (fun _ _ => rfl)) pe_int) (pg_sub (pv 0) pe_int set_list))
      (pss_cons (ps_set (i := 3) sc_l_take.nd rfl (by first | exact Or.inl rfl | exact Or.inr rfl) (pe_op op_mod (pe_op op_mulX (pe_op op_add (pe_ix (ixL (K := K) rfl) (pv 0) pe_int (fun _ _ => rfl)) (pe_op op_mulX pe_int (pe_ix (ixL (K := K) rfl) (pv 0) pe_int (fun _ _ => rfl)))) (pe_op op_add pe_int (pe_ix (ixL (K := K) rfl) (pv 0) pe_int (fun _ _ => rfl)))) pe_int))
      (pss_cons (ps_set (i := 4) sc_l_take.nd rfl (by first | exact Or.inl rfl | exact Or.inr rfl) (pe_op op_mod (pe_op op_mulX (pe_op op_add (pv 3) (pe_ix (ixL (K := K) rfl) (pv 0) pe_int (fun _ _ => rfl))) (pe_op op_add (pe_op op_mod (pv 3) pe_int) pe_int)) pe_int))
      (pss_one (ps_ret (pe_op op_mod (pe_op op_fdivW (pe_op op_mod (pe_op op_add (pe_op op_mulX (pv 4) pe_int) (pv 3)) pe_int) pe_int) (pv 1)))))))), ?_⟩
    refine ⟨_, rfl, p, _, 0, _, rfl, rfl, SqL.of hp, at0, _, _, rfl, rfl, _, rfl, ite2 (fun c1 => ?_) (fun c1 => ?_)⟩
    · refine ⟨_, rfl, p, _, 0, _, rfl, rfl, SqL.of hp, at0, _, rfl, _, _, rfl, rfl, h0, ?_⟩
      refine ⟨_, rfl, p, _, 0, _, rfl, rfl, SqL.of hp, at0, _, rfl, _, _, rfl, rfl, wide_div h0 hm (by decide) (by decide), ?_⟩
      refine ⟨_, rfl, p, _, 0, 0, rfl, rfl, hp, rfl, ?_⟩
      refine ⟨_, rfl, ?_⟩
      refine q _ _ (Int.emod_nonneg _ (by omega)) (Int.emod_lt_of_pos _ h0) ⟨_, _, _, upd_same, ?_, hb, hb2, hc, by omega⟩ (Fr.put Fr.refl)
      exact Int.ediv_nonneg ha (by omega)
    · refine ⟨_, rfl, p, _, 2, _, rfl, rfl, SqL.of hp, at2, _, _, rfl, rfl, _, rfl, p, _, 2, 2, rfl, rfl, hp, rfl, ?_⟩
      have hp2 : (upd H p (.lst [.int a, .int b, .int (c + 1)])) p = some (.lst [.int a, .int b, .int (c + 1)]) := upd_same
      refine ⟨_, rfl, p, _, 1, _, rfl, rfl, SqL.of hp2, at1, _, rfl, p, _, 2, _, rfl, rfl, SqL.of hp2, at2, _, _, rfl, rfl, mulL (by decide), _, _, rfl, rfl, ?_⟩
      refine ⟨_, rfl, p, _, 2, _, rfl, rfl, SqL.of hp2, at2, _, _, rfl, rfl, _, _, rfl, rfl, mulL (by omega), _, _, rfl, rfl, (by show (0 : Int) < 2147483647; decide), ?_⟩
      generalize e1 : (b + 48271 * (c + 1)) * (39373 + (c + 1)) % 2147483647 = o
      have o1 : 0 ≤ o ∧ o < 2147483647 := by omega
      refine ⟨_, rfl, _, rfl, p, _, 2, _, rfl, rfl, SqL.of hp2, at2, _, _, rfl, rfl, _, rfl, _, _, rfl, rfl, (by show (0 : Int) < 40009; decide), _, _, rfl, rfl, _, _, rfl, rfl, mulL (by omega), _, _, rfl, rfl, (by show (0 : Int) < 2147483629; decide), ?_⟩
      generalize e2 : (o + (c + 1)) * (o % 40009 + 7) % 2147483629 = t
      have t1 : 0 ≤ t ∧ t < 2147483629 := by omega
      refine ⟨_, rfl, _, _, rfl, rfl, mulL (by omega), _, rfl, _, _, rfl, rfl, _, _, rfl, rfl, (by show (0 : Int) < 2147483587; decide), _, _, rfl, rfl, wide_div (b := 10) (by decide) (by decide) (by decide) (by decide), _, rfl, _, _, rfl, rfl, h0, ?_⟩
      exact q _ _ (Int.emod_nonneg _ (by omega)) (Int.emod_lt_of_pos _ h0) ⟨_, _, _, upd_same, ha, hb, hb2, by omega, by omega⟩ (Fr.put Fr.refl)

end
end KR
namespace KR
open PySem PySem.Spec PyProof.Rows L2
section
variable {P : Program} {w : World} {K : PySem.W.Frag} {mg : Str → Option Value} {base : Heap}
theorem ok0_l_low (T : All K mg) : FnOk P w K mg base CX0 1 T.f_l_low T.fd_l_low ["_law_top", "_law_bottom"] sp_low := by
  refine T.d_l_low.fn.ok sc_l_low (fun vs H Q E h => ?_) (fun cdv A outer s H vs Q E hr h => ?_)
  · obtain ⟨t, b, rfl, _⟩ := h
    rfl
  · obtain ⟨t, b, rfl, hb, ht, hb2, q⟩ := h
    refine ⟨_, (pss_cons (ps_par (i := 2) (j := 3) (by rfl) sc_l_low.nd rfl rfl (by decide) rfl rfl (pa_cons (pe_callB call_abs (by rfl) T.b_abs (by decide +kernel) (pa_cons (pv 0) pa_nil)) (pa_cons (pe_callB call_abs (by rfl) T.b_abs (by decide +kernel) (pa_cons (pv 1) pa_nil)) pa_nil)) (by rfl))
      (pss_cons (ps_while PassesOwn.never (pt_cmpR op_gt (pv 3) pe_int (nomark _)) (pss_one (ps_par (i := 2) (j := 3) (by rfl) sc_l_low.nd rfl rfl (by decide) rfl rfl (pa_cons (pv 3) (pa_cons (pe_op op_mod (pv 2) (pv 3)) pa_nil)) (by rfl))))
      (pss_one (ps_ret (pe_tupI (pa_cons (pe_op op_mulX (pe_op op_fdivW (pv 0) (pv 2)) (pe_op op_sub pe_int (pe_op op_mulX pe_int (pe_callTy call_int1 (by rfl) T.b_int (by decide +kernel) (pa_cons (pe_cmpR op_lt (pv 1) pe_int (nomark _)) pa_nil))))) (pa_cons (pe_op op_fdivW (pe_callB call_abs (by rfl) T.b_abs (by decide +kernel) (pa_cons (pv 1) pa_nil)) (pv 2)) pa_nil))))))), ?_⟩
    have abs_ : ∀ z : Int, (if z < 0 then -z else z) = (z.natAbs : Int) := fun z => by split <;> omega
    refine ⟨_, rfl, _, rfl, _, rfl, _, rfl, _, _, rfl, ?_⟩
    rw [abs_, abs_]
    refine ⟨fun m σ H' => ∃ x y : Nat, σ = [some (.int t), some (.int b), some (.int x), some (.int y)] ∧ H' = H ∧ Nat.gcd x y = Nat.gcd t.natAbs b.natAbs ∧ m = y, ⟨_, _, _, rfl, rfl, rfl, rfl⟩, ?_⟩
    rintro m σ H' ⟨x, y, rfl, rfl, hg, rfl⟩
    refine ⟨_, rfl, _, _, rfl, rfl, _, rfl, ite2 (fun c => ?_) (fun c => ?_)⟩
    · have c1 : (0 : Int) < m := of_decide_eq_true c
      refine ⟨fun σ' H1 => ∃ x' y' : Nat, σ' = [some (.int t), some (.int b), some (.int x'), some (.int y')] ∧ H1 = H' ∧ Nat.gcd x' y' = Nat.gcd t.natAbs b.natAbs ∧ y' < m, fun σ' H1 ⟨x', y', e1, e2, e3, e4⟩ => ⟨y', e4, x', y', e1, e2, e3, rfl⟩, ?_⟩
      refine ⟨_, rfl, _, rfl, _, rfl, _, _, rfl, rfl, c1, _, _, rfl, ?_⟩
      refine ⟨m, x % m, by rw [Int.natCast_emod]; rfl, rfl, ?_, Nat.mod_lt _ (by omega)⟩
      rw [← hg, Nat.gcd_comm x m, Nat.gcd_rec m x, Nat.gcd_comm]
    · have c1 : ¬ (0 : Int) < m := of_decide_eq_false (Bool.eq_false_iff.mpr c)
      have m0 : m = 0 := by omega
      subst m0
      rw [Nat.gcd_zero_right] at hg
      have x0 : 0 < x := by
        rw [hg]
        exact Nat.gcd_pos_of_pos_right _ (by omega)
      have x1 : (x : Int).natAbs < 2 ^ 2000 := by
        rw [Int.natAbs_natCast, hg]
        exact Nat.lt_of_le_of_lt (Nat.le_of_dvd (by omega) (Nat.gcd_dvd_right _ _)) hb2
      refine ⟨_, rfl, _, rfl, _, _, rfl, rfl, wide_div (b := 2000) (by omega) x1 (by decide) (by decide), _, rfl, _, _, rfl, rfl, .inr ⟨_, rfl, ?_⟩⟩
      refine ⟨_, _, rfl, rfl, mulL (by decide), _, _, rfl, rfl, _, _, rfl, rfl, mulR (by rcases bit_or (c := decide (b < 0) = true) with z | z <;> rw [z] <;> decide), ?_⟩
      refine ⟨_, rfl, _, rfl, _, rfl, _, _, rfl, rfl, wide_div (b := 2000) (by omega) x1 (by decide) (by decide), rfl, fun p H1 s1 hp h1 => ?_⟩
      have e1 : t / (x : Int) * (1 - 2 * (if decide (b < 0) = true then 1 else 0)) = (low t b).1 := by
        unfold low
        rw [hg]
        by_cases z : b < 0
        · rw [if_pos (decide_eq_true z), if_pos z] <;> rfl
        · rw [if_neg (by rw [decide_eq_false z]; exact Bool.false_ne_true), if_neg z] <;> rfl
      have e2 : (if b < 0 then -b else b) / (x : Int) = (low t b).2 := by
        rw [abs_]
        unfold low
        rw [hg]
      refine q p H1 s1 hp ?_
      rw [← e1, ← e2]
      exact h1
theorem ok_l_low (T : All K mg) : FnOk P w K mg base CX0 1 T.f_l_low T.fd_l_low ["_law_top", "_law_bottom"] (sp_lowQ K) := (ok0_l_low T).imp fun _ _ _ _ h => lowQ h

end
end KR
namespace KR
open PySem PySem.Spec PyProof.Rows L2
section
variable {P : Program} {w : World} {K : PySem.W.Frag} {mg : Str → Option Value} {base : Heap}
def sp_l_same (K : PySem.W.Frag) (n : Nat) : Sp := fun vs H Q _ => ∃ (v w : V) (d : PyData), vs = [v, w] ∧ Dk K H n v d ∧ Dk K H n w d ∧ ∀ H', Same H H' → Q (.bl true) H'
/-- how two alike things look: no list and no tuple, or two lists, or two tuples -/
inductive Look2 (K : PySem.W.Frag) (H : Hp) (n : Nat) (v w : V) (d : PyData) : Prop
  | leaf (t : String) (bb bi bs : Bool) (e : v = w) (ty : ∀ H2, TyX K H2 w (.type t)) (kl : kitB t "list" = some false) (kt : kitB t "tuple" = some false) (kb : kitB t "bool" = some bb) (ks : kitB t "str" = some bs) (kn : w = .non ∨ (w ≠ .non ∧ (bs = true ∨ (bs = false ∧ bb = true))) ∨ (w ≠ .non ∧ bs = false ∧ bb = false ∧ bi = true)) (ki : kitB t "int" = some bi) (dp : ∀ H2, Dp K H2 w d) (sh : SeqAt.shaped d = true)
  | both (t : String) (bl bt : Bool) (a b : Addr) (xs ys : List V) (ds : List PyData) (e1 : v = .ref a) (e2 : w = .ref b) (ty1 : TyX K H v (.type t)) (ty2 : TyX K H w (.type t)) (kl : kitB t "list" = some bl) (kt : kitB t "tuple" = some bt) (kk : bl = false → bt = true)
    (lx : xs.length = ds.length) (ly : ys.length = ds.length) (l9 : xs.length ≤ 100000) (dx : ∀ (i : Nat) (x : V) (d : PyData), xs[i]? = some x → ds[i]? = some d → Dk K H n x d) (dy : ∀ (i : Nat) (x : V) (d : PyData), ys[i]? = some x → ds[i]? = some d → Dk K H n x d)
    (h : (H a = some (.lst xs) ∧ H b = some (.lst ys)) ∨ (SqT K H a xs ∧ SqT K H b ys))
theorem look2 {K : PySem.W.Frag} {H : Hp} {n : Nat} {v w : V} {d : PyData} (h1 : Dk K H (n + 1) v d) (h2 : Dk K H (n + 1) w d) : Look2 K H n v w d := by
  cases h1 with
  | non => cases h2; exact .leaf "NoneType" false false false rfl (fun _ => .base .non) (by decide +kernel) (by decide +kernel) (by decide +kernel) (by decide +kernel) (.inl rfl) (by decide +kernel) (fun _ => .non) rfl
  | bl _ b => cases h2; exact .leaf "bool" true true false rfl (fun _ => .base (.bl b)) (by decide +kernel) (by decide +kernel) (by decide +kernel) (by decide +kernel) (.inr (.inl ⟨nofun, .inr ⟨rfl, rfl⟩⟩)) (by decide +kernel) (fun _ => .bl b) rfl
  | int _ i => cases h2; exact .leaf "int" false true false rfl (fun _ => .base (.int i)) (by decide +kernel) (by decide +kernel) (by decide +kernel) (by decide +kernel) (.inr (.inr ⟨nofun, rfl, rfl, rfl⟩)) (by decide +kernel) (fun _ => .int i) rfl
  | str _ x ok => cases h2; exact .leaf "str" false false true rfl (fun _ => .base (.str x)) (by decide +kernel) (by decide +kernel) (by decide +kernel) (by decide +kernel) (.inr (.inl ⟨nofun, .inl rfl⟩)) (by decide +kernel) (fun _ => .str x) (by show (PyData.canLay0 (.str x) && decide (PyData.depth (.str x) ≤ 64)) = true; rw [ok]; rfl)
  | lst a1 a2 a3 a4 =>
    cases h2 with
    | lst b1 b2 b3 b4 => exact .both "list" true false _ _ _ _ _ rfl rfl (.base (.lst a1)) (.base (.lst b1)) (by decide +kernel) (by decide +kernel) (fun z => nomatch z) a2 b2 a3 a4 b4 (.inl ⟨a1, b1⟩)
  | tup a1 a2 a3 a4 =>
    cases h2 with
    | tup b1 b2 b3 b4 => exact .both "tuple" false true _ _ _ _ _ rfl rfl (sqT_ty a1) (sqT_ty b1) (by decide +kernel) (by decide +kernel) (fun _ => rfl) a2 b2 a3 a4 b4 (.inr ⟨a1, b1⟩)
theorem none_l_same {f : Addr} {fd : FuncData} : FnOk P w K mg base CX0 0 f fd ["_law_found", "_law_due"] (sp_l_same K 0) := by
  have no : ∀ vs H Q E, ¬ sp_l_same K 0 vs H Q E := fun vs H Q E h => by
    obtain ⟨v, w, d, _, h1, _⟩ := h
    cases h1
  exact ⟨fun vs H Q E h => absurd h (no vs H Q E), fun A outer s H args us vs Q E _ _ _ _ h => absurd h (no vs H Q E)⟩
theorem step_l_same (T : All K mg) {n : Nat} (ih : FnOk P w K mg base CX0 n T.f_l_same T.fd_l_same ["_law_found", "_law_due"] (sp_l_same K n)) : FnOk P w K mg base CX0 (n + 1) T.f_l_same T.fd_l_same ["_law_found", "_law_due"] (sp_l_same K (n + 1)) := by
  refine T.d_l_same.fn.ok sc_l_same (fun vs H Q E h => ?_) (fun cdv A outer s H vs Q E hr h => ?_)
  · obtain ⟨v, w, d, rfl, _⟩ := h
    rfl
  · obtain ⟨v, w, d, rfl, h1, h2, q⟩ := h
    refine ⟨_, (pss_cons (ps_if (pt_val (pe_callB (isiTK (K := K) rfl) (by rfl) T.b_isinstance (by decide +kernel) (pa_cons (pv 1) (pa_cons (pe_tupI (pa_cons (pe_bltn (v := .ty "list") (by rfl) T.b_list (by decide +kernel) rfl) (pa_cons (pe_bltn (v := .ty "tuple") (by rfl) T.b_tuple (by decide +kernel) rfl) pa_nil))) pa_nil)))) (pss_cons (ps_if (PW.pt (pw_or (pt_cmpR op_ne (pe_callB (isiK (K := K) rfl) (by rfl) T.b_isinstance (by decide +kernel) (pa_cons (pv 0) (pa_cons (pe_bltn (v := .ty "list") (by rfl) T.b_list (by decide +kernel) rfl) pa_nil))) (pe_callB (isiK (K := K) rfl) (by rfl) T.b_isinstance (by decide +kernel) (pa_cons (pv 1) (pa_cons (pe_bltn (v := .ty "list") (by rfl) T.b_list (by decide +kernel) rfl) pa_nil))) (nomark _)) (pw_or1 (pt_cmpR op_ne (pe_callB (isiK (K := K) rfl) (by rfl) T.b_isinstance (by decide +kernel) (pa_cons (pv 0) (pa_cons (pe_bltn (v := .ty "tuple") (by rfl) T.b_tuple (by decide +kernel) rfl) pa_nil))) (pe_callB (isiK (K := K) rfl) (by rfl) T.b_isinstance (by decide +kernel) (pa_cons (pv 1) (pa_cons (pe_bltn (v := .ty "tuple") (by rfl) T.b_tuple (by decide +kernel) rfl) pa_nil))) (nomark _))))) (pss_one (ps_ret pe_bl)) pss_nil)
      (pss_one (ps_ret (pe_and (pe_cmpR op_eq (pe_callB (lenA (K := K) rfl) (by rfl) T.b_len PySem.boot_len (pa_cons (pv 0) pa_nil)) (pe_callB (lenA (K := K) rfl) (by rfl) T.b_len PySem.boot_len (pa_cons (pv 1) pa_nil)) (nomark _)) (pe_one (pe_callB (allK (K := K) rfl rfl) (by rfl) T.b_all (by decide +kernel) (pa_cons (pe_lc (own := [("_law_one", 2), ("_law_other", 3)]) (g := gTup K 2 (gCons (gName 2) (gCons (gName 3) gNil))) (tt := tYes) (by rfl) sc_l_same.nd (pi_zipK (K := K) rfl (by rfl) T.b_zip (pa_cons (pv 0) (pa_cons (pv 1) pa_nil))) (blkOk_by (own := [("_law_one", 2), ("_law_other", 3)]) (N := ["_law_found", "_law_due", "_law_one", "_law_other", "_law_alike"]) (sc := defScope s_l_same) (by decide +kernel)) (fun _ _ _ _ _ => (pg_tupK (K := K) rfl rfl (pgs_cons (pg_name (i := 2) sc_l_same.nd rfl (by first | exact Or.inl rfl | exact Or.inr rfl)) (pgs_cons (pg_name (i := 3) sc_l_same.nd rfl (by first | exact Or.inl rfl | exact Or.inr rfl)) pgs_nil)))) (fun _ _ _ _ _ => pts_nil) (fun _ _ _ _ _ => (pe_call ih hr (by rfl) T.d_l_same.mg T.d_l_same.fn.kp T.d_l_same.b .nil pass0 (pa_cons (pv 2) (pa_cons (pv 3) pa_nil))))) pa_nil))))))) pss_nil)
      (pss_cons (ps_if (PW.pt (pw_or (pt_cmpR op_isN (pv 1) pe_non (nomark _)) (pw_or1 (pt_val (pe_callB (isiTK (K := K) rfl) (by rfl) T.b_isinstance (by decide +kernel) (pa_cons (pv 1) (pa_cons (pe_tupI (pa_cons (pe_bltn (v := .ty "str") (by rfl) T.b_str (by decide +kernel) rfl) (pa_cons (pe_bltn (v := .ty "bool") (by rfl) T.b_bool (by decide +kernel) rfl) pa_nil))) pa_nil))))))) (pss_cons (ps_set (i := 4) sc_l_same.nd rfl (by first | exact Or.inl rfl | exact Or.inr rfl) (pe_and (pe_cmpR op_eq (pe_callB (isiK (K := K) rfl) (by rfl) T.b_isinstance (by decide +kernel) (pa_cons (pv 0) (pa_cons (pe_bltn (v := .ty "bool") (by rfl) T.b_bool (by decide +kernel) rfl) pa_nil))) (pe_callB (isiK (K := K) rfl) (by rfl) T.b_isinstance (by decide +kernel) (pa_cons (pv 1) (pa_cons (pe_bltn (v := .ty "bool") (by rfl) T.b_bool (by decide +kernel) rfl) pa_nil))) (nomark _)) (pe_one (pe_cmpR op_eq (pe_callB (isiK (K := K) rfl) (by rfl) T.b_isinstance (by decide +kernel) (pa_cons (pv 0) (pa_cons (pe_bltn (v := .ty "int") (by rfl) T.b_int (by decide +kernel) rfl) pa_nil))) (pe_callB (isiK (K := K) rfl) (by rfl) T.b_isinstance (by decide +kernel) (pa_cons (pv 1) (pa_cons (pe_bltn (v := .ty "int") (by rfl) T.b_int (by decide +kernel) rfl) pa_nil))) (nomark _)))))
      (pss_one (ps_ret (pe_and (pv 4) (pe_one (pe_cmpR (eqDK (K := K) rfl hr.units) (pv 0) (pv 1) (nomark _))))))) pss_nil)
      (pss_one (ps_ret (pe_and (pe_callB (isiK (K := K) rfl) (by rfl) T.b_isinstance (by decide +kernel) (pa_cons (pv 0) (pa_cons (pe_bltn (v := .ty "int") (by rfl) T.b_int (by decide +kernel) rfl) pa_nil))) (pe_and (pe_not (pe_callB (isiK (K := K) rfl) (by rfl) T.b_isinstance (by decide +kernel) (pa_cons (pv 0) (pa_cons (pe_bltn (v := .ty "bool") (by rfl) T.b_bool (by decide +kernel) rfl) pa_nil)))) (pe_one (pe_cmpR (eqDK (K := K) rfl hr.units) (pv 0) (pv 1) (nomark _))))))))), ?_⟩
    refine ⟨_, rfl, rfl, fun tp H1 s1 htp htp2 => ?_⟩
    have lk : Look2 K H1 n v w d := look2 (h1.same s1) (h2.same s1)
    cases lk with
    | leaf t bb bi bs e ty kl kt kb ks kn ki dp sh =>
      subst e
      refine ⟨_, tp, _, _, [.type "list", .type "tuple"], false, rfl, htp2, .cons (.ty _) (.cons (.ty _) .nil), ty H1, kitAny_cons (kit_ty kl) (fun _ => kitAny_cons (kit_ty kt) (fun _ => rfl) (fun z => nomatch z)) (fun z => nomatch z), false, rfl, iteF ?_⟩
      have ty1 := ty H1
      have dp1 := dp H1
      rcases kn with e | ⟨n1, k⟩ | ⟨n1, k1, k2, k3⟩
      · subst e
        refine ⟨_, rfl, rfl, _, rfl, ?_⟩
        rw [decide_eq_true rfl]
        refine iteT (iteT ?_)
        refine ⟨_, rfl, _, _, _, _, _, rfl, .ty _, ty1, kit_ty kb, _, rfl, _, _, _, _, _, rfl, .ty _, ty1, kit_ty kb, rfl, _, rfl, ?_⟩
        rw [decide_eq_true rfl]
        refine iteT ?_
        refine ⟨_, rfl, _, _, _, _, _, rfl, .ty _, ty1, kit_ty ki, _, rfl, _, _, _, _, _, rfl, .ty _, ty1, kit_ty ki, rfl, ?_⟩
        rw [decide_eq_true rfl]
        refine ⟨_, rfl, _, rfl, iteT ?_⟩
        refine ⟨_, rfl, _, rfl, d, d, dp1, dp1, sh, sh, ?_⟩
        rw [SeqAt.eqv_refl _ (SeqAt.canLay_of_shaped sh)]
        exact q _ s1
      · refine ⟨_, rfl, rfl, _, rfl, ?_⟩
        rw [decide_eq_false n1]
        refine iteF ?_
        refine ⟨_, rfl, rfl, fun tp2 H2 s2 _ g2 => ?_⟩
        have ty2 := ty H2
        have dp2 := dp H2
        refine ⟨_, tp2, _, _, [.type "str", .type "bool"], true, rfl, g2, .cons (.ty _) (.cons (.ty _) .nil), ty2, kitAny_cons (kit_ty ks) (fun z => kitAny_cons (kit_ty kb) (fun y => by rcases k with k | ⟨_, k⟩ <;> simp_all) (fun _ => rfl)) (fun _ => rfl), true, rfl, iteT ?_⟩
        refine ⟨_, rfl, _, _, _, _, _, rfl, .ty _, ty2, kit_ty kb, _, rfl, _, _, _, _, _, rfl, .ty _, ty2, kit_ty kb, rfl, _, rfl, ?_⟩
        rw [decide_eq_true rfl]
        refine iteT ?_
        refine ⟨_, rfl, _, _, _, _, _, rfl, .ty _, ty2, kit_ty ki, _, rfl, _, _, _, _, _, rfl, .ty _, ty2, kit_ty ki, rfl, ?_⟩
        rw [decide_eq_true rfl]
        refine ⟨_, rfl, _, rfl, iteT ?_⟩
        refine ⟨_, rfl, _, rfl, d, d, dp2, dp2, sh, sh, ?_⟩
        rw [SeqAt.eqv_refl _ (SeqAt.canLay_of_shaped sh)]
        exact q _ (s1.trans s2)
      · refine ⟨_, rfl, rfl, _, rfl, ?_⟩
        rw [decide_eq_false n1]
        refine iteF ?_
        refine ⟨_, rfl, rfl, fun tp2 H2 s2 _ g2 => ?_⟩
        have ty2 := ty H2
        have dp2 := dp H2
        subst k1 k2 k3
        refine ⟨_, tp2, _, _, [.type "str", .type "bool"], false, rfl, g2, .cons (.ty _) (.cons (.ty _) .nil), ty2, kitAny_cons (kit_ty ks) (fun _ => kitAny_cons (kit_ty kb) (fun _ => rfl) (fun z => nomatch z)) (fun z => nomatch z), false, rfl, iteF ?_⟩
        refine ⟨_, rfl, _, _, _, _, _, rfl, .ty _, ty2, kit_ty ki, _, rfl, iteT ?_⟩
        refine ⟨_, rfl, _, _, _, _, _, rfl, .ty _, ty2, kit_ty kb, _, rfl, _, rfl, iteT ?_⟩
        refine ⟨_, rfl, _, rfl, d, d, dp2, dp2, sh, sh, ?_⟩
        rw [SeqAt.eqv_refl _ (SeqAt.canLay_of_shaped sh)]
        exact q _ (s1.trans s2)
    | both t bl bt a b xs ys ds e1 e2 ty1 ty2 kl kt kk lx ly l9 dx dy hab =>
      subst e1 e2
      refine ⟨_, tp, _, _, [.type "list", .type "tuple"], true, rfl, htp2, .cons (.ty _) (.cons (.ty _) .nil), ty2, kitAny_cons (kit_ty kl) (fun z => kitAny_cons (kit_ty kt) (fun y => nomatch (kk z).symm.trans y) (fun _ => rfl)) (fun _ => rfl), true, rfl, iteT ?_⟩
      refine ⟨_, rfl, _, _, _, _, _, rfl, .ty _, ty1, kit_ty kl, _, rfl, _, _, _, _, _, rfl, .ty _, ty2, kit_ty kl, rfl, _, rfl, ?_⟩
      rw [decide_eq_true rfl]
      refine iteF ?_
      refine ⟨_, rfl, _, _, _, _, _, rfl, .ty _, ty1, kit_ty kt, _, rfl, _, _, _, _, _, rfl, .ty _, ty2, kit_ty kt, rfl, _, rfl, ?_⟩
      rw [decide_eq_true rfl]
      refine iteF ?_
      have hlen : ∀ (c : Addr) (zs : List V), (H1 c = some (.lst zs) ∨ SqT K H1 c zs) → LenV K (.ref c) H1 zs.length := fun c zs h => by
        rcases h with h | h
        · exact .inl ⟨_, SqL.of h, rfl⟩
        · exact .inr ⟨_, h, rfl⟩
      refine ⟨_, rfl, _, _, rfl, hlen a xs (hab.imp (·.1) (·.1)), _, rfl, _, _, rfl, hlen b ys (hab.imp (·.2) (·.2)), rfl, _, rfl, ?_⟩
      have el : decide (V.int (xs.length : Int) = V.int (ys.length : Int)) = true := decide_eq_true (by rw [lx, ly])
      rw [el]
      refine iteT ?_
      -- the turns of zip
      have turn : ∀ (D : Addr) (H2 : Hp) (i : Nat) (T0 : Addr), H1 D = none → i < xs.length → Same H1 H2 → H2 D = some (.lst (List.replicate i (.bl true))) → H2 T0 = none →
          sp_l_same K n [xs.getD i .non, ys.getD i .non] (upd H2 T0 (.tup [xs.getD i .non, ys.getD i .non])) (fun y H4 => ∃ acc, H4 D = some (.lst acc) ∧ acc.length < sizeLine ∧ (Same H1 (upd H4 D (.lst (acc ++ [y]))) ∧ (upd H4 D (.lst (acc ++ [y]))) D = some (.lst (List.replicate (i + 1) (.bl true))))) E0 := by
        intro D H2 i T0 hD hi sm hd hT
        have sT : Same H2 (upd H2 T0 (.tup [xs.getD i .non, ys.getD i .non])) := same_new hT
        have gx := getD_of hi
        have gy := getD_of (show i < ys.length by omega)
        have gd : ds[i]? = some ds[i] := List.getElem?_eq_getElem (by omega)
        refine ⟨_, _, ds[i], rfl, (dx i _ _ gx gd).same (sm.trans sT), (dy i _ _ gy gd).same (sm.trans sT), fun H4 s4 => ?_⟩
        refine ⟨_, s4 _ _ (sT _ _ hd), by rw [List.length_replicate]; exact small' (by omega), Same.put ((sm.trans sT).trans s4) hD, ?_⟩
        rw [upd_same, List.replicate_succ'] <;> rfl
      refine ⟨_, rfl, _, rfl, a, b, xs, ys, rfl, ?_⟩
      have fin : ∀ (D : Addr) (H2 : Hp), Same H1 H2 ∧ H2 D = some (.lst (List.replicate xs.length (.bl true))) → ∃ (a : Addr) (bs : List Bool), [V.ref D] = [V.ref a] ∧ SqL K H2 a (bs.map V.bl) ∧ Q (.bl (bs.all id)) H2 := fun D H2 ⟨sm, hd⟩ => by
        obtain ⟨t1, t2⟩ := all_true xs.length
        refine ⟨D, List.replicate xs.length true, rfl, SqL.of (by rw [t1]; exact hd), ?_⟩
        rw [t2]
        exact q H2 (s1.trans sm)
      rcases hab with ⟨ha, hb⟩ | ⟨ha, hb⟩
      · refine .inl ⟨SqL.of ha, SqL.of hb, fun D hD => ?_⟩
        refine lc_pair (n := xs.length) (St := fun H2 => SqL K H2 a xs ∧ SqL K H2 b ys) (fun i H2 => zipL_go rfl (by omega)) (fun H2 => zipL_stop rfl) (fun i H2 v H3 => zipL_yld rfl (by omega))
          (fun i H2 => Same H1 H2 ∧ H2 D = some (.lst (List.replicate i (.bl true)))) ⟨same_new hD, upd_same⟩ (fun i H2 _ z => ⟨SqL.of (z.1 _ _ ha), SqL.of (z.1 _ _ hb)⟩) (fun i T0 H2 hi z hT => ?_) (fun H2 z => fin D H2 z)
        refine ⟨T0, _, rfl, SqT.of upd_same, rfl, _, _, rfl, _, _, rfl, rfl, rfl, yesT ?_⟩
        exact ⟨_, rfl, _, rfl, turn D H2 i T0 hD hi z.1 z.2 hT⟩
      · refine .inr ⟨ha, hb, fun D hD => ?_⟩
        refine lc_pair (n := xs.length) (St := fun H2 => SqT K H2 a xs ∧ SqT K H2 b ys) (fun i H2 => zipT_go rfl (by omega)) (fun H2 => zipT_stop rfl) (fun i H2 v H3 => zipT_yld rfl (by omega))
          (fun i H2 => Same H1 H2 ∧ H2 D = some (.lst (List.replicate i (.bl true)))) ⟨same_new hD, upd_same⟩ (fun i H2 _ z => ⟨Same.tup z.1 ha, Same.tup z.1 hb⟩) (fun i T0 H2 hi z hT => ?_) (fun H2 z => fin D H2 z)
        refine ⟨T0, _, rfl, SqT.of upd_same, rfl, _, _, rfl, _, _, rfl, rfl, rfl, yesT ?_⟩
        exact ⟨_, rfl, _, rfl, turn D H2 i T0 hD hi z.1 z.2 hT⟩
theorem ok_l_same (T : All K mg) : FnOk P w K mg base CX0 5 T.f_l_same T.fd_l_same ["_law_found", "_law_due"] (sp_l_same K 5) := by
  have go : ∀ n, FnOk P w K mg base CX0 n T.f_l_same T.fd_l_same ["_law_found", "_law_due"] (sp_l_same K n) := fun n => by
    induction n with
    | zero => exact none_l_same
    | succ n ih => exact step_l_same T ih
  exact go _

end
end KR
namespace KR
open PySem PySem.Spec PyProof.Rows L2
section
variable {P : Program} {w : World} {K : PySem.W.Frag} {mg : Str → Option Value} {base : Heap}
/-- a name without the letter q -/
structure NmQ (x : Str) : Prop where
  lo : 1 ≤ x.length
  hi : x.length ≤ 8
  az : ∀ c ∈ TL.tl x, 97 ≤ c ∧ c ≤ 122 ∧ c ≠ 113
theorem NmQ.nm {x : Str} (h : NmQ x) : Nm x := ⟨h.lo, h.hi, fun c hc => ⟨(h.az c hc).1, (h.az c hc).2.1⟩⟩
theorem NmQ.no {x : Str} (h : NmQ x) : 113 ∉ TL.tl x := fun hc => (h.az 113 hc).2.2 rfl
/-! ### texts of small letters -/
structure Lo (n : Nat) (y : Str) : Prop where
  len : y.length ≤ n
  az : ∀ c ∈ TL.tl y, 97 ≤ c ∧ c ≤ 122 ∧ c ≠ 113
theorem Lo.app {n m : Nat} {x y : Str} (h : Lo n x) (k : Lo m y) : Lo (n + m) (x ++ y) := by
  have e : TL.tl (x ++ y) = TL.tl x ++ TL.tl y := TL.tl_append x y
  refine ⟨?_, fun c hc => ?_⟩
  · rw [TL.len_tl, e, List.length_append, ← TL.len_tl, ← TL.len_tl]
    exact Nat.add_le_add h.len k.len
  · rw [e] at hc
    exact (List.mem_append.mp hc).elim (h.az c) (k.az c)
theorem Lo.up {n m : Nat} {y : Str} (h : Lo n y) (le : n ≤ m) : Lo m y := ⟨Nat.le_trans h.len le, h.az⟩
theorem Lo.two {n m : Nat} {x y : Str} (h : Lo n x) (k : Lo m y) (le : n + m ≤ 100000 := by decide) : x.length + y.length ≤ sizeLine := small (Nat.le_trans (Nat.add_le_add h.len k.len) le)
theorem Lo.one {c : Nat} (h : 97 ≤ c ∧ c ≤ 122 ∧ c ≠ 113) : Lo 1 (S [c]) := ⟨Nat.le_refl 1, fun d hd => by rw [List.mem_singleton.mp hd]; exact h⟩
theorem Lo.of {l : List Nat} {n : Nat} (h : l.length ≤ n) (k : ∀ c ∈ l, 97 ≤ c ∧ c ≤ 122 ∧ c ≠ 113) : Lo n (S l) := ⟨by rw [S_len]; exact h, k⟩
theorem lo_rep {c m : Nat} (hc : 97 ≤ c ∧ c ≤ 122 ∧ c ≠ 113) (hm : m < 6) : Lo 5 (Txt.mul (S [c]) (m : Int)) := by
  have all : ∀ (l : List Nat), (∀ d ∈ l, d = c) → ∀ d ∈ l, 97 ≤ d ∧ d ≤ 122 ∧ d ≠ 113 := fun l h d hd => by rw [h d hd]; exact hc
  have ms : m = 0 ∨ m = 1 ∨ m = 2 ∨ m = 3 ∨ m = 4 ∨ m = 5 := by omega
  rcases ms with rfl | rfl | rfl | rfl | rfl | rfl
  · exact (show Lo 5 (S []) from Lo.of (by decide) (all _ (by simp)))
  · exact (show Lo 5 (S [c]) from Lo.of (by show 1 ≤ 5; decide) (all _ (by simp)))
  · exact (show Lo 5 (S [c, c]) from Lo.of (by show 2 ≤ 5; decide) (all _ (by simp)))
  · exact (show Lo 5 (S [c, c, c]) from Lo.of (by show 3 ≤ 5; decide) (all _ (by simp)))
  · exact (show Lo 5 (S [c, c, c, c]) from Lo.of (by show 4 ≤ 5; decide) (all _ (by simp)))
  · exact (show Lo 5 (S [c, c, c, c, c]) from Lo.of (by show 5 ≤ 5; decide) (all _ (by simp)))
abbrev lets : Str := "abcdefghijklmnoprstuvwxyz"
/-- a letter by its place -/
def lt (i : Nat) : Nat := (lets.cps.toList[i]?).getD 97
theorem lt_inj : ∀ i, i < 25 → ∀ j, j < 25 → lt i = lt j → i = j := by decide +kernel
theorem lt_az (i : Nat) : 97 ≤ lt i ∧ lt i ≤ 122 ∧ lt i ≠ 113 := by
  have al : ∀ c ∈ lets.cps.toList, 97 ≤ c ∧ c ≤ 122 ∧ c ≠ 113 := by decide +kernel
  unfold lt
  cases e : lets.cps.toList[i]? with
  | none => exact ⟨by decide, by decide, by decide⟩
  | some c => exact al c (List.mem_of_getElem? e)
theorem let_lt {y : Int} (h0 : 0 ≤ y) (h1 : y < 25) : atI lets.cps.toList y = some (lt y.toNat) := by
  obtain ⟨k, rfl⟩ : ∃ k : Nat, y = (k : Int) := ⟨y.toNat, by omega⟩
  have hl : lets.cps.toList.length = 25 := by decide +kernel
  have e : lets.cps.toList[k]? = some (lets.cps.toList[k]'(by omega)) := List.getElem?_eq_getElem (by omega)
  refine (atI_nat (j := k) e).trans ?_
  rw [Int.toNat_natCast]
  unfold lt
  rw [e] <;> rfl
theorem lets_len : lets.length ≤ sizeLine := small (by decide +kernel)
/-- the name of a number below 625 -/
def nmOf (stem : Str) (v : Int) : Str := stem ++ S [lt (v / 25).toNat] ++ S [lt (v % 25).toNat]
theorem nmOf_inj {stem : Str} {v u : Int} (v0 : 0 ≤ v) (v1 : v < 625) (u0 : 0 ≤ u) (u1 : u < 625) (e : nmOf stem v = nmOf stem u) : v = u := by
  have e1 := congrArg TL.tl e
  unfold nmOf at e1
  rw [TL.tl_append, TL.tl_append, TL.tl_append, TL.tl_append, List.append_assoc, List.append_assoc] at e1
  have e2 := List.append_cancel_left e1
  have e3 : [lt (v / 25).toNat, lt (v % 25).toNat] = [lt (u / 25).toNat, lt (u % 25).toNat] := e2
  rw [List.cons.injEq, List.cons.injEq] at e3
  have a1 := lt_inj _ (by omega) _ (by omega) e3.1
  have a2 := lt_inj _ (by omega) _ (by omega) e3.2.1
  omega
/-- the number of turn k -/
def vAt (a st : Int) (k : Nat) : Int := (a + st * (k : Int)) % 625
theorem vAt_box (a st : Int) (k : Nat) : 0 ≤ vAt a st k ∧ vAt a st k < 625 := ⟨Int.emod_nonneg _ (by decide), Int.emod_lt_of_pos _ (by decide)⟩
theorem vAt_inj {a st : Int} (h : st = 1 ∨ st = 26 ∨ st = 7 ∨ st = 251) {i j : Nat} (hi : i < 48) (hj : j < 48) (e : vAt a st i = vAt a st j) : i = j := by
  unfold vAt at e
  rcases h with rfl | rfl | rfl | rfl <;> omega
theorem nodup_sub_len : ∀ {l m : List Str}, l.Nodup → (∀ x ∈ l, x ∈ m) → l.length ≤ m.length
  | [], m, _, _ => Nat.zero_le _
  | x :: l, m, h, s => by
    have hx := s x List.mem_cons_self
    rw [List.nodup_cons] at h
    have r := nodup_sub_len (m := m.erase x) h.2 fun y hy => (List.mem_erase_of_ne (fun z : y = x => h.1 (z ▸ hy))).mpr (s y (List.mem_cons_of_mem _ hy))
    rw [List.length_erase_of_mem hx] at r
    have := List.length_pos_of_mem hx
    rw [List.length_cons]
    omega
theorem names_nodup {stem : Str} {a st : Int} (h : st = 1 ∨ st = 26 ∨ st = 7 ∨ st = 251) : ∀ n, n ≤ 48 → ((List.range n).map fun k => nmOf stem (vAt a st k)).Nodup := by
  intro n hn
  refine List.pairwise_map.mpr (List.Pairwise.imp_of_mem (fun {i j} hi hj ne e => ne ?_) (List.nodup_range (n := n)))
  exact vAt_inj h (by have := List.mem_range.mp hi; omega) (by have := List.mem_range.mp hj; omega) (nmOf_inj (vAt_box ..).1 (vAt_box ..).2 (vAt_box ..).1 (vAt_box ..).2 e)
theorem keys_dd : ∀ (l : List Str) (kvs : List (Key × V)) (acc : List Str), kvs.map (·.1) = acc.map (Sum.inr : Str → Key) → ((mergeK kvs (l.map fun y => ((Sum.inr y : Key), V.bl true))).map (·.1)) = (dd acc l).map (Sum.inr : Str → Key)
  | [], kvs, acc, h => h
  | x :: l, kvs, acc, h => by
    have mem : (kvs.any fun kv => decide (kv.1 = (Sum.inr x : Key))) = true ↔ x ∈ acc := by
      have m1 : (Sum.inr x : Key) ∈ kvs.map (·.1) ↔ x ∈ acc := by
        rw [h, List.mem_map]
        exact ⟨fun ⟨y, hy, e⟩ => by cases e; exact hy, fun hy => ⟨x, hy, rfl⟩⟩
      rw [← m1, List.any_eq_true, List.mem_map]
      exact ⟨fun ⟨y, hy, e⟩ => ⟨y, hy, of_decide_eq_true e⟩, fun ⟨y, hy, e⟩ => ⟨y, hy, decide_eq_true e⟩⟩
    have step : (putK kvs (Sum.inr x : Key) (V.bl true)).map (·.1) = (if x ∈ acc then acc else acc ++ [x]).map (Sum.inr : Str → Key) := by
      unfold putK
      by_cases c : x ∈ acc
      · rw [if_pos (mem.mpr c), if_pos c, ← h, List.map_map]
        refine List.map_congr_left fun y _ => ?_
        show (if y.1 = Sum.inr x then (y.1, V.bl true) else y).1 = y.1
        split <;> rfl
      · rw [if_neg (fun z => c (mem.mp z)), if_neg c, List.map_append, List.map_append, h] <;> rfl
    exact keys_dd l _ _ step
theorem keys_dist (l : List Str) : ((mergeK [] (l.map fun y => ((Sum.inr y : Key), V.bl true))).map fun kv => kV kv.1) = (dist l).map V.str := by
  have e := congrArg (List.map kV) (keys_dd l [] [] rfl)
  rw [List.map_map, List.map_map] at e
  exact e
theorem cut_take {xs : List V} {n : Nat} (h : n ≤ xs.length) : cutV xs none (some (n : Int)) = xs.take n := by
  unfold cutV
  rw [HT.sIx_none, HT.sIx_nat, List.drop_zero, Nat.sub_zero, Nat.min_eq_left h]
theorem pairs_of {K : PySem.W.Frag} {H : Hp} : ∀ (l : List (Addr × Str)), (∀ z ∈ l, H z.1 = some (.tup [.str z.2, .bl true])) → Paired (fun p (kv : Key × V) => SqT K H p [kV kv.1, kv.2]) (l.map (·.1)) (l.map fun z => (Sum.inr z.2, V.bl true))
  | [], _ => .nil
  | z :: l, h => .cons (SqT.of (h z List.mem_cons_self)) (pairs_of l fun y hy => h y (List.mem_cons_of_mem _ hy))
def sp_l_names : Sp := fun vs H Q _ => ∃ (p : Addr) (n many : Nat), vs = [.ref p, .int many] ∧ 1 ≤ many ∧ many ≤ 48 ∧ BoxAt H p n ∧ n ≤ 999990000 ∧ ∀ (l : Addr) (ts : List Str) (H' : Hp), H' l = some (.lst (ts.map V.str)) → ts.length = many → ts.Nodup → (∀ y ∈ ts, NmQ y) → BoxAt H' p (n + 6) → Fr p H H' → Q (.ref l) H'
theorem ok_l_names (T : All K mg) : FnOk P w K mg base CX0 2 T.f_l_names T.fd_l_names ["_law_box_here", "_law_many"] sp_l_names := by
  refine T.d_l_names.fn.ok sc_l_names (fun vs H Q E h => ?_) (fun cdv A outer s H vs Q E hr h => ?_)
  · obtain ⟨p, n, many, rfl, _⟩ := h
    rfl
  · obtain ⟨p, n, many, rfl, hm1, hm2, hB, hn, q⟩ := h
    refine ⟨_, (pss_cons (ps_set (i := 2) sc_l_names.nd rfl (by first | exact Or.inl rfl | exact Or.inr rfl) pe_str)
      (pss_cons (ps_set (i := 3) sc_l_names.nd rfl (by first | exact Or.inl rfl | exact Or.inr rfl) pe_str)
      (pss_cons (ps_set (i := 3) sc_l_names.nd rfl (by first | exact Or.inl rfl | exact Or.inr rfl) (pe_op op_rep (pe_split (pv 3) pe_str) (pe_callTy call_int1 (by rfl) T.b_int (by decide +kernel) (pa_cons (pe_cmpR op_eq (pe_call (ok_l_take T) hr (by rfl) T.d_l_take.mg T.d_l_take.fn.kp T.d_l_take.b .nil pass0 (pa_cons (pv 0) (pa_cons pe_int pa_nil))) pe_int (nomark _)) pa_nil))))
      (pss_cons (ps_par (i := 4) (j := 5) (by rfl) sc_l_names.nd rfl rfl (by decide) rfl rfl (pa_cons (pe_call (ok_l_take T) hr (by rfl) T.d_l_take.mg T.d_l_take.fn.kp T.d_l_take.b .nil pass0 (pa_cons (pv 0) (pa_cons pe_int pa_nil))) (pa_cons (pe_ix (ixL (K := K) rfl) (pe_lstI (pa_cons pe_int (pa_cons pe_int (pa_cons pe_int (pa_cons pe_int pa_nil))))) (pe_call (ok_l_take T) hr (by rfl) T.d_l_take.mg T.d_l_take.fn.kp T.d_l_take.b .nil pass0 (pa_cons (pv 0) (pa_cons pe_int pa_nil))) (fun _ _ => rfl)) pa_nil)) (by rfl))
      (pss_cons (ps_par (i := 6) (j := 7) (by rfl) sc_l_names.nd rfl rfl (by decide) rfl rfl (pa_cons (pe_op op_mul_str (pe_ix ix_str (pv 2) (pe_call (ok_l_take T) hr (by rfl) T.d_l_take.mg T.d_l_take.fn.kp T.d_l_take.b .nil pass0 (pa_cons (pv 0) (pa_cons pe_int pa_nil))) (fun _ _ => rfl)) (pe_call (ok_l_take T) hr (by rfl) T.d_l_take.mg T.d_l_take.fn.kp T.d_l_take.b .nil pass0 (pa_cons (pv 0) (pa_cons pe_int pa_nil)))) (pa_cons (pe_ix ix_str (pv 2) (pe_call (ok_l_take T) hr (by rfl) T.d_l_take.mg T.d_l_take.fn.kp T.d_l_take.b .nil pass0 (pa_cons (pv 0) (pa_cons pe_int pa_nil))) (fun _ _ => rfl)) pa_nil)) (by rfl))
      (pss_cons (ps_for PassesOwn.never rfl (pi_range1 (by rfl) T.b_range (pa_cons (pv 1) pa_nil)) (pg_name (i := 8) sc_l_names.nd rfl (by first | exact Or.inl rfl | exact Or.inr rfl)) (pss_cons (ps_asg (pe_callB call_divmodW (by rfl) T.b_divmod (by decide +kernel) (pa_cons (pe_op op_mod (pe_op op_add (pv 4) (pe_op op_mulX (pv 5) (pv 8))) pe_int) (pa_cons pe_int pa_nil))) (pg_tupK (K := K) rfl rfl (pgs_cons (pg_name (i := 9) sc_l_names.nd rfl (by first | exact Or.inl rfl | exact Or.inr rfl)) (pgs_cons (pg_name (i := 10) sc_l_names.nd rfl (by first | exact Or.inl rfl | exact Or.inr rfl)) pgs_nil))))
      (pss_cons (ps_set (i := 11) sc_l_names.nd rfl (by first | exact Or.inl rfl | exact Or.inr rfl) (pe_op op_add_str (pe_op op_add_str (pv 6) (pe_ix ix_str (pv 2) (pv 9) (fun _ _ => rfl))) (pe_ix ix_str (pv 2) (pv 10) (fun _ _ => rfl))))
      (pss_one (ps_expr (pe_bm PySem.F.plainAttrs_list PySem.F.slot_list_extend PySem.F.type_list_extend mt_extend (pv 3) (pa_cons (pe_slice (slL (K := K) rfl) (pe_lstI (pa_cons (pv 11) (pa_cons (pe_op op_add_str (pv 11) (pv 7)) pa_nil))) po_none (po_some (pe_op op_add pe_int (pe_callTy call_int1 (by rfl) T.b_int (by decide +kernel) (pa_cons (pe_cmpR op_eq (pe_op op_mod (pv 8) pe_int) pe_int (nomark _)) pa_nil))))) pa_nil)))))))
      (pss_one (ps_ret (pe_slice (slL (K := K) rfl) (pe_callTy (call_listD rfl) (by rfl) T.b_list (by decide +kernel) (pa_cons (pe_callTy (call_dictP rfl) (by rfl) T.b_dict (by decide +kernel) (pa_cons (pe_lc (own := [("_law_name", 11)]) (g := gName 11) (tt := tYes) (by rfl) sc_l_names.nd (pi_listK (K := K) rfl (pv 3)) (blkOk_by (own := [("_law_name", 11)]) (N := ["_law_box_here", "_law_many", "_law_letters", "_law_found", "_law_first", "_law_step", "_law_stem", "_law_tail", "_law_k", "_law_one", "_law_other", "_law_name"]) (sc := defScope s_l_names) (by decide +kernel)) (fun _ _ _ _ _ => (pg_name (i := 11) sc_l_names.nd rfl (by first | exact Or.inl rfl | exact Or.inr rfl))) (fun _ _ _ _ _ => pts_nil) (fun _ _ _ _ _ => (pe_tupI (pa_cons (pv 11) (pa_cons pe_bl pa_nil))))) pa_nil)) pa_nil)) po_none (po_some (pv 1))))))))))), ?_⟩
    refine ⟨_, rfl, ⟨_, rfl⟩, _, _, rfl, rfl, rfl, small (by decide +kernel), fun fl hfl => ?_⟩
    have sm := same_new (o := .lst ((Txt.split ("kettle mould at juice ladle skim stop start strike drain knock drips untell vat sums never" : Str) (" " : Str)).map V.str)) hfl
    have hf : (upd H fl (.lst ((Txt.split ("kettle mould at juice ladle skim stop start strike drain knock drips untell vat sums never" : Str) (" " : Str)).map V.str))) fl = _ := upd_same
    have lg : ∀ y ∈ Txt.split ("kettle mould at juice ladle skim stop start strike drain knock drips untell vat sums never" : Str) (" " : Str), 1 ≤ y.length ∧ y.length ≤ 8 ∧ ∀ c ∈ TL.tl y, 97 ≤ c ∧ c ≤ 122 ∧ c ≠ 113 := by decide +kernel
    have ll : (Txt.split ("kettle mould at juice ladle skim stop start strike drain knock drips untell vat sums never" : Str) (" " : Str)).length ≤ 16 := by decide +kernel
    generalize Txt.split ("kettle mould at juice ladle skim stop start strike drain knock drips untell vat sums never" : Str) (" " : Str) = ws at sm hf lg ll
    have B1 := hB.same sm
    refine ⟨_, rfl, p, 3, n, rfl, B1, by omega, by decide, by decide, fun z H2 z0 z1 B2 F2 => ?_⟩
    refine ⟨rfl, .inr ⟨_, rfl, ?_⟩⟩
    obtain ⟨k, ek, k1⟩ : ∃ k : Nat, (if decide (V.int z = V.int 0) = true then (1 : Int) else 0) = (k : Int) ∧ k ≤ 1 := by
      generalize decide (V.int z = V.int 0) = b
      cases b
      · exact ⟨0, rfl, by decide⟩
      · exact ⟨1, rfl, by decide⟩
    have hf2 := F2 _ _ (hB.new hfl) hf
    obtain ⟨ts, ets, its, lts⟩ : ∃ ts : List Str, (List.replicate (k : Int).toNat (ws.map V.str)).flatten = ts.map V.str ∧ (∀ y ∈ ts, y ∈ ws) ∧ ts.length ≤ 16 := by
      have k2 : k = 0 ∨ k = 1 := by omega
      rcases k2 with rfl | rfl
      · exact ⟨[], rfl, fun y hy => absurd hy List.not_mem_nil, by decide⟩
      · exact ⟨ws, by show (List.replicate 1 (ws.map V.str)).flatten = _; simp, fun y hy => hy, ll⟩
    refine ⟨fl, k, _, rfl, congrArg V.int ek, hf2, by omega, by omega, ?_, fun fl2 hfl2 => ?_⟩
    · rw [List.length_map, Int.toNat_natCast]
      exact small (Nat.le_trans (Nat.mul_le_mul ll k1) (by decide))
    rw [ets]
    have sm2 := same_new (o := .lst (ts.map V.str)) hfl2
    have hg2 : (upd H2 fl2 (.lst (ts.map V.str))) fl2 = _ := upd_same
    generalize upd H2 fl2 (.lst (ts.map V.str)) = H3 at sm2 hg2
    have B3 := B2.same sm2
    have nfl : fl2 ≠ p := B2.new hfl2
    have F03 : Fr p H H3 := ((Fr.of sm).trans F2).trans (.of sm2)
    have nof : H fl2 = none := by
      obtain ⟨o, ho⟩ := B2.some
      exact sm.free (F2.free ho hfl2)
    refine ⟨_, rfl, p, 625, n + 1, rfl, B3, by omega, by decide, by decide, fun a H4 a0 a1 B4 F4 => ?_⟩
    refine ⟨rfl, fun ls H5 s5 n5 h5 => ?_⟩
    have B5 := B4.same s5
    have nls := B4.new n5
    refine ⟨_, rfl, p, 4, n + 2, rfl, B5, by omega, by decide, by decide, fun way H6 k0 k1 B6 F6 => ?_⟩
    obtain ⟨st, es, st9⟩ : ∃ st : Int, atI ([.int 1, .int 26, .int 7, .int 251] : List V) way = some (.int st) ∧ (st = 1 ∨ st = 26 ∨ st = 7 ∨ st = 251) := by
      have ks : way = 0 ∨ way = 1 ∨ way = 2 ∨ way = 3 := by omega
      rcases ks with e | e | e | e <;> subst e
      · exact ⟨_, rfl, .inl rfl⟩
      · exact ⟨_, rfl, .inr (.inl rfl)⟩
      · exact ⟨_, rfl, .inr (.inr (.inl rfl))⟩
      · exact ⟨_, rfl, .inr (.inr (.inr rfl))⟩
    refine ⟨ls, _, way, _, rfl, rfl, SqL.of (F6 _ _ nls h5), es, ?_⟩
    refine ⟨_, _, rfl, ?_⟩
    refine ⟨_, rfl, _, rfl, p, 25, n + 3, rfl, B6, by omega, by decide, by decide, fun u H7 u0 u1 B7 F7 => ?_⟩
    refine ⟨_, _, _, rfl, rfl, lets_len, let_lt u0 u1, ?_⟩
    refine ⟨_, rfl, p, 6, n + 4, rfl, B7, by omega, by decide, by decide, fun v H8 v0 v1 B8 F8 => ?_⟩
    obtain ⟨m, rfl⟩ : ∃ m : Nat, v = (m : Int) := ⟨v.toNat, by omega⟩
    refine ⟨_, m, rfl, rfl, by show 1 * m ≤ 100000; omega, by omega, ?_⟩
    have gst : Lo 5 (Txt.mul (S [lt u.toNat]) (m : Int)) := lo_rep (lt_az _) (by omega)
    have est : Txt.mul ⟨#[lt u.toNat]⟩ (m : Int) = Txt.mul (S [lt u.toNat]) (m : Int) := rfl
    rw [est]
    generalize Txt.mul (S [lt u.toNat]) (m : Int) = stem at gst
    refine ⟨_, rfl, _, rfl, p, 25, n + 5, rfl, B8, by omega, by decide, by decide, fun u' H9 u0' u1' B9 F9 => ?_⟩
    refine ⟨_, _, _, rfl, rfl, lets_len, let_lt u0' u1', ?_⟩
    refine ⟨_, _, rfl, ?_⟩
    have gtl : Lo 1 (S [lt u'.toNat]) := Lo.one (lt_az _)
    have F39 : Fr p H3 H9 := F4.trans ((Fr.of s5).trans (F6.trans (F7.trans (F8.trans F9))))
    have hf9 := F39 _ _ nfl hg2
    have gws : ∀ y ∈ ws, NmQ y := fun y hy => ⟨(lg y hy).1, (lg y hy).2.1, (lg y hy).2.2⟩
    refine ⟨_, rfl, many, rfl, by omega, by omega, for_range (lo := 0) (n := many) (fun i σ H' => ∃ (ts' : List Str) (v8 v9 v10 v11 : Option V), σ = [some (.ref p), some (.int many), some (.str lets), some (.ref fl2), some (.int a), some (.int st), some (.str stem), some (.str (S [lt u'.toNat])), v8, v9, v10, v11] ∧ H' fl2 = some (.lst (ts'.map V.str)) ∧ (∀ y ∈ ts', NmQ y) ∧ ts'.length ≤ 16 + 2 * i ∧ (∀ j, j < i → nmOf stem (vAt a st j) ∈ ts') ∧ BoxAt H' p (n + 6) ∧ Fr p H H')
      ⟨ts, none, none, none, none, rfl, hf9, fun y hy => gws y (its y hy), by omega, fun j hj => absurd hj (Nat.not_lt_zero j), B9, F03.trans F39⟩ ?_ ?_⟩
    · rintro i σ Ha hi ⟨ts', v8, v9, v10, v11, rfl, hfa, gta, lta, ina, Ba, Fa⟩
      refine ⟨_, rfl, _, rfl, _, rfl, _, _, rfl, rfl, mulL (by omega), _, _, rfl, rfl, _, _, rfl, rfl, (by show (0 : Int) < 625; decide), ?_⟩
      have e0 : (a + st * (0 + (i : Int))) % 625 = vAt a st i := by rw [Int.zero_add] <;> rfl
      have X0 : 0 ≤ ((a + st * (0 + (i : Int))) % 625) := Int.emod_nonneg _ (by decide)
      have X1 : ((a + st * (0 + (i : Int))) % 625) < 625 := Int.emod_lt_of_pos _ (by decide)
      refine ⟨_, _, rfl, ⟨by decide, PyProof.noPylong_of_log2 (by decide +kernel)⟩, fun dp hdp => ?_⟩
      have smd := same_new (o := .tup [.int (((a + st * (0 + (i : Int))) % 625) / 25), .int (((a + st * (0 + (i : Int))) % 625) % 25)]) hdp
      refine ⟨dp, _, rfl, SqT.of upd_same, rfl, _, _, rfl, _, _, rfl, rfl, ?_⟩
      have y0 : 0 ≤ ((a + st * (0 + (i : Int))) % 625) / 25 := Int.ediv_nonneg X0 (by decide)
      have y1 : ((a + st * (0 + (i : Int))) % 625) / 25 < 25 := by omega
      have w0 : 0 ≤ ((a + st * (0 + (i : Int))) % 625) % 25 := by omega
      have w1 : ((a + st * (0 + (i : Int))) % 625) % 25 < 25 := by omega
      have g3 : Lo 1 (S [lt (((a + st * (0 + (i : Int))) % 625) / 25).toNat]) := Lo.one (lt_az _)
      have g4 : Lo 1 (S [lt (((a + st * (0 + (i : Int))) % 625) % 25).toNat]) := Lo.one (lt_az _)
      have gn := (gst.app g3).app g4
      refine ⟨_, rfl, _, rfl, _, rfl, _, _, _, rfl, rfl, lets_len, let_lt y0 y1, _, _, rfl, rfl, Lo.two gst g3, _, rfl, _, rfl, _, _, _, rfl, rfl, lets_len, let_lt w0 w1, _, _, rfl, rfl, Lo.two (gst.app g3) g4, ?_⟩
      have hfb := smd _ _ hfa
      refine ⟨_, rfl, .inl ⟨rfl, _, SqL.of hfb⟩, ?_⟩
      refine ⟨_, rfl, _, rfl, _, rfl, _, _, rfl, rfl, Lo.two gn gtl, rfl, fun sl Hb sb nb hb => ?_⟩
      refine ⟨_, rfl, _, _, rfl, rfl, (by show (0 : Int) < 4; decide), rfl, .inr ⟨_, rfl, _, _, rfl, rfl, _, rfl, ?_⟩⟩
      have n2 : ∀ y : Str, Lo 8 y → 2 ≤ y.length → NmQ y := fun y h l => ⟨by omega, h.len, h.az⟩
      have en : stem ++ S [lt (((a + st * (0 + (i : Int))) % 625) / 25).toNat] ++ S [lt (((a + st * (0 + (i : Int))) % 625) % 25).toNat] = nmOf stem (vAt a st i) := by rw [← e0] <;> rfl
      have l2 : ∀ y : Str, 2 ≤ (stem ++ S [lt (((a + st * (0 + (i : Int))) % 625) / 25).toNat] ++ S [lt (((a + st * (0 + (i : Int))) % 625) % 25).toNat] ++ y).length := fun y => by
        rw [TL.len_tl, TL.tl_append, TL.tl_append, TL.tl_append, List.length_append, List.length_append, List.length_append]
        show 2 ≤ _ + 1 + 1 + _
        omega
      have l3 : 2 ≤ (stem ++ S [lt (((a + st * (0 + (i : Int))) % 625) / 25).toNat] ++ S [lt (((a + st * (0 + (i : Int))) % 625) % 25).toNat]).length := by
        rw [TL.len_tl, TL.tl_append, TL.tl_append, List.length_append, List.length_append]
        show 2 ≤ _ + 1 + 1
        omega
      have l4 := gn.app gtl
      refine ⟨sl, _, rfl, SqL.of hb, fun p2 Hc sc nc hc => ?_⟩
      have pick : ∀ b : Bool, ∃ zs : List Str, cutV [V.str (stem ++ S [lt (((a + st * (0 + (i : Int))) % 625) / 25).toNat] ++ S [lt (((a + st * (0 + (i : Int))) % 625) % 25).toNat]), V.str ((stem ++ S [lt (((a + st * (0 + (i : Int))) % 625) / 25).toNat] ++ S [lt (((a + st * (0 + (i : Int))) % 625) % 25).toNat]) ++ S [lt u'.toNat])] none (some (1 + (if b = true then (1 : Int) else 0))) = zs.map V.str ∧ (stem ++ S [lt (((a + st * (0 + (i : Int))) % 625) / 25).toNat] ++ S [lt (((a + st * (0 + (i : Int))) % 625) % 25).toNat]) ∈ zs ∧ zs.length ≤ 2 ∧ ∀ y ∈ zs, NmQ y := fun b => by
        have m1 : NmQ (stem ++ S [lt (((a + st * (0 + (i : Int))) % 625) / 25).toNat] ++ S [lt (((a + st * (0 + (i : Int))) % 625) % 25).toNat]) := n2 (stem ++ S [lt (((a + st * (0 + (i : Int))) % 625) / 25).toNat] ++ S [lt (((a + st * (0 + (i : Int))) % 625) % 25).toNat]) (gn.up (by decide)) l3
        have m2 : NmQ ((stem ++ S [lt (((a + st * (0 + (i : Int))) % 625) / 25).toNat] ++ S [lt (((a + st * (0 + (i : Int))) % 625) % 25).toNat]) ++ S [lt u'.toNat]) := n2 _ l4 (l2 _)
        cases b
        · exact ⟨[(stem ++ S [lt (((a + st * (0 + (i : Int))) % 625) / 25).toNat] ++ S [lt (((a + st * (0 + (i : Int))) % 625) % 25).toNat])], rfl, List.mem_singleton.mpr rfl, by show 1 ≤ 2; decide, fun y hy => by rw [List.mem_singleton.mp hy]; exact m1⟩
        · refine ⟨[(stem ++ S [lt (((a + st * (0 + (i : Int))) % 625) / 25).toNat] ++ S [lt (((a + st * (0 + (i : Int))) % 625) % 25).toNat]), (stem ++ S [lt (((a + st * (0 + (i : Int))) % 625) / 25).toNat] ++ S [lt (((a + st * (0 + (i : Int))) % 625) % 25).toNat]) ++ S [lt u'.toNat]], rfl, List.mem_cons_self, Nat.le_refl 2, fun y hy => ?_⟩
          rcases List.mem_cons.mp hy with e | e
          · rw [e]
            exact m1
          · rw [List.mem_singleton.mp e]
            exact m2
      obtain ⟨zs, ez, inz, lz, az⟩ := pick _
      have hc2 : Hc p2 = some (.lst (zs.map V.str)) := hc.trans (congrArg (fun l => some (HO.lst l)) ez)
      refine ⟨fl2, p2, _, _, rfl, rfl, sc _ _ (sb _ _ hfb), hc2, ?_, ?_⟩
      · rw [List.length_map, List.length_map]
        exact small (by omega)
      have sE := smd.trans (sb.trans sc)
      refine ⟨ts' ++ zs, _, _, _, _, rfl, ?_, fun y hy => (List.mem_append.mp hy).elim (gta y) (az y), by rw [List.length_append]; omega, fun j hj => ?_, (Ba.same sE).upd nfl, Fr.put' (Fa.trans (.of sE)) nof⟩
      · rw [upd_same, List.map_append] <;> rfl
      · by_cases c : j = i
        · rw [c, ← en]
          exact List.mem_append_right _ inz
        · exact List.mem_append_left _ (ina j (by omega))
    · rintro σ Ha ⟨ts', v8, v9, v10, v11, rfl, hfa, gta, lta, ina, Ba, Fa⟩
      refine ⟨_, rfl, fl2, rfl, ⟨_, SqL.of hfa⟩, fun D hD => ?_⟩
      refine lc_list (K := K) (a := fl2) (xs := ts'.map V.str) (fun i H' => ∃ l : List (Addr × Str), Same Ha H' ∧ H' D = some (.lst (l.map fun z => V.ref z.1)) ∧ l.map (·.2) = ts'.take i ∧ ∀ z ∈ l, H' z.1 = some (.tup [.str z.2, .bl true])) ⟨[], same_new hD, upd_same, rfl, fun z hz => absurd hz List.not_mem_nil⟩ (fun i H' _ ⟨_, sm, _⟩ => SqL.of (sm _ _ hfa)) (fun i z H' hz w => ?_) ?_
      · obtain ⟨l, sm, hl, el, al⟩ := w
        rw [List.getElem?_map] at hz
        cases e : ts'[i]? with
        | none =>
          rw [e] at hz
          cases hz
        | some y =>
          rw [e] at hz
          obtain rfl : V.str y = z := Option.some.inj hz
          have i30 : i < 112 := by
            have := (List.getElem?_eq_some_iff.mp e).1
            omega
          refine ⟨rfl, yesT ?_⟩
          refine ⟨_, rfl, rfl, fun tp Hb sa na ha => ?_⟩
          have hla := sa _ _ hl
          have ll2 : l.length ≤ 112 := by
            have := congrArg List.length el
            rw [List.length_map, List.length_take] at this
            omega
          refine ⟨_, hla, by rw [List.length_map]; exact small' (by omega), l ++ [(tp, y)], Same.put (sm.trans sa) hD, by rw [upd_same, List.map_append] <;> rfl, by rw [List.map_append, el, take_one e] <;> rfl, fun u hu => ?_⟩
          have keep : ∀ c xs, Hb c = some (.tup xs) → (upd Hb D (.lst ((l.map fun z => V.ref z.1) ++ [V.ref tp]))) c = some (.tup xs) := fun c xs e => by
            rw [upd_ne (ne_of e hla (by intro z; cases z))]
            exact e
          rcases List.mem_append.mp hu with h | h
          · exact keep _ _ (sa _ _ (al u h))
          · obtain rfl := List.mem_singleton.mp h
            exact keep _ _ ha
      rintro Hb ⟨l, sm, hl, el, al⟩
      rw [List.length_map, List.take_length] at el
      have hl2 : Hb D = some (.lst ((l.map (·.1)).map V.ref)) := by
        rw [hl, List.map_map] <;> rfl
      refine ⟨D, _, _, rfl, SqL.of hl2, pairs_of l al, fun dd hdd => ?_⟩
      have s2 := same_new (o := .dK (mergeK [] (l.map fun z => (Sum.inr z.2, V.bl true)))) hdd
      refine ⟨dd, _, rfl, .inl upd_same, fun lk hlk => ?_⟩
      have ek2 : (mergeK [] (l.map fun z => ((Sum.inr z.2 : Key), V.bl true))).map (fun kv => kV kv.1) = (dist ts').map V.str := by
        rw [← el, ← keys_dist, List.map_map] <;> rfl
      have many_le : many ≤ (dist ts').length := by
        have nd := names_nodup (stem := stem) (a := a) st9 many hm2
        have r := nodup_sub_len (m := dist ts') nd fun x hx => by
          obtain ⟨j, hj, rfl⟩ := List.mem_map.mp hx
          exact mem_dist.mpr (ina j (List.mem_range.mp hj))
        rw [List.length_map, List.length_range] at r
        exact r
      refine ⟨_, rfl, _, rfl, lk, _, rfl, SqL.of upd_same, fun r Hz sz nz hz => ?_⟩
      have hz2 : Hz r = some (.lst (((dist ts').take many).map V.str)) := by
        refine hz.trans (congrArg (fun l => some (HO.lst l)) ?_)
        rw [ek2, cut_take (by rw [List.length_map]; exact many_le), List.map_take]
      have sE := sm.trans (s2.trans ((same_new hlk).trans sz))
      exact q r _ Hz hz2 (by rw [List.length_take, Nat.min_eq_left many_le]) ((List.take_sublist _ _).nodup (dist_nodup ts')) (fun y hy => gta y (mem_dist.mp (List.mem_of_mem_take hy))) (Ba.same sE) (Fa.trans (.of sE))

end
end KR
namespace KR
open PySem PySem.Spec PyProof.Rows L2
section
variable {P : Program} {w : World} {K : PySem.W.Frag} {mg : Str → Option Value} {base : Heap}
def sp_l_room : Sp := fun vs H Q _ => ∃ (p : Addr) (n : Nat), vs = [.ref p] ∧ BoxAt H p n ∧ n ≤ 999999000 ∧ ∀ (z : Int) (H' : Hp), 1 ≤ z → z ≤ 1000000 → BoxAt H' p (n + 2) → Fr p H H' → Q (.int z) H'
theorem ok_l_room (T : All K mg) : FnOk P w K mg base CX0 2 T.f_l_room T.fd_l_room ["_law_box_here"] sp_l_room := by
  refine T.d_l_room.fn.ok sc_l_room (fun vs H Q E h => ?_) (fun cdv A outer s H vs Q E hr h => ?_)
  · obtain ⟨p, n, rfl, _⟩ := h
    rfl
  · obtain ⟨p, n, rfl, hB, hn, q⟩ := h
    refine ⟨_, (pss_one (ps_ret (pe_op op_add pe_int (pe_call (ok_l_take T) hr (by rfl) T.d_l_take.mg T.d_l_take.fn.kp T.d_l_take.b .nil pass0 (pa_cons (pv 0) (pa_cons (pe_ix (ixL (K := K) rfl) (pe_lstI (pa_cons pe_int (pa_cons (pe_op op_pow pe_int pe_int) (pa_cons (pe_op op_pow pe_int pe_int) pa_nil)))) (pe_call (ok_l_take T) hr (by rfl) T.d_l_take.mg T.d_l_take.fn.kp T.d_l_take.b .nil pass0 (pa_cons (pv 0) (pa_cons pe_int pa_nil))) (fun _ _ => rfl)) pa_nil)))))), ?_⟩
    refine ⟨_, rfl, _, _, rfl, rfl, ⟨by decide, by decide, by decide⟩, _, _, rfl, rfl, ⟨by decide, by decide, by decide⟩, rfl, fun l H1 s1 hl h1 => ?_⟩
    refine ⟨_, rfl, p, 3, n, rfl, hB.same s1, by omega, by decide, by decide, fun way H2 w0 w1 B1 F1 => ?_⟩
    have hne : l ≠ p := hB.new hl
    obtain ⟨m, em, h0, h9⟩ : ∃ m : Int, atI ([.int 100, .int (10 ^ (4 : Int).toNat), .int (10 ^ (6 : Int).toNat)] : List V) way = some (.int m) ∧ 0 < m ∧ m ≤ 1000000 := by
      have w2 : way = 0 ∨ way = 1 ∨ way = 2 := by omega
      rcases w2 with e | e | e <;> subst e
      · exact ⟨_, rfl, by decide, by decide⟩
      · exact ⟨_, rfl, by decide, by decide⟩
      · exact ⟨_, rfl, by decide, by decide⟩
    refine ⟨l, _, way, _, rfl, rfl, SqL.of (F1 _ _ hne h1), em, ?_⟩
    refine ⟨p, m, n + 1, rfl, B1, by omega, h0, by omega, fun z H3 z0 z1 B2 F2 => ?_⟩
    exact ⟨_, _, rfl, rfl, q _ _ (by omega) (by omega) B2 (((Fr.of s1).trans F1).trans F2)⟩

end
end KR
namespace KR
open PySem PySem.Spec PyProof.Rows L2
section
variable {P : Program} {w : World} {K : PySem.W.Frag} {mg : Str → Option Value} {base : Heap}
def sp_l_kettle (K : PySem.W.Frag) : Sp := fun vs H Q _ => ∃ (p : Addr) (x : Str) (n : Nat), vs = [.ref p, .str x] ∧ BoxAt H p n ∧ n ≤ 999998000 ∧ Nm x ∧ ∀ (v : V) (d : PyData) (H' : Hp), KetAt K H' v x d → BoxAt H' p (n + 7) → Fr p H H' → Q v H'
theorem ok_l_kettle (T : All K mg) : FnOk P w K mg base CX0 3 T.f_l_kettle T.fd_l_kettle ["_law_box_here", "_law_name"] (sp_l_kettle K) := by
  refine T.d_l_kettle.fn.ok sc_l_kettle (fun vs H Q E h => ?_) (fun cdv A outer s H vs Q E hr h => ?_)
  · obtain ⟨p, x, n, rfl, _⟩ := h
    rfl
  · obtain ⟨p, x, n, rfl, hB, hn, nm, q⟩ := h
    refine ⟨_, (pss_cons (ps_set (i := 2) sc_l_kettle.nd rfl (by first | exact Or.inl rfl | exact Or.inr rfl) (pe_op op_add pe_int (pe_call (ok_l_take T) (hr.mono (by decide)) (by rfl) T.d_l_take.mg T.d_l_take.fn.kp T.d_l_take.b .nil pass0 (pa_cons (pv 0) (pa_cons (pe_ix (ixL (K := K) rfl) (pe_lstI (pa_cons pe_int (pa_cons pe_int pa_nil))) (pe_call (ok_l_take T) (hr.mono (by decide)) (by rfl) T.d_l_take.mg T.d_l_take.fn.kp T.d_l_take.b .nil pass0 (pa_cons (pv 0) (pa_cons pe_int pa_nil))) (fun _ _ => rfl)) pa_nil)))))
      (pss_cons (ps_set (i := 3) sc_l_kettle.nd rfl (by first | exact Or.inl rfl | exact Or.inr rfl) (pe_call (ok_l_low T) (hr.mono (by decide)) (by rfl) T.d_l_low.mg T.d_l_low.fn.kp T.d_l_low.b .nil pass0 (pa_cons (pe_op op_add pe_int (pe_call (ok_l_take T) (hr.mono (by decide)) (by rfl) T.d_l_take.mg T.d_l_take.fn.kp T.d_l_take.b .nil pass0 (pa_cons (pv 0) (pa_cons (pe_op op_sub (pv 2) pe_int) pa_nil)))) (pa_cons (pv 2) pa_nil))))
      (pss_cons (ps_set (i := 4) sc_l_kettle.nd rfl (by first | exact Or.inl rfl | exact Or.inr rfl) (pe_call (ok_l_room T) hr (by rfl) T.d_l_room.mg T.d_l_room.fn.kp T.d_l_room.b .nil pass0 (pa_cons (pv 0) pa_nil)))
      (pss_one (ps_ret (pe_tupI (pa_cons (pv 1) (pa_cons (pv 4) (pa_cons (pe_call (ok_l_take T) (hr.mono (by decide)) (by rfl) T.d_l_take.mg T.d_l_take.fn.kp T.d_l_take.b .nil pass0 (pa_cons (pv 0) (pa_cons (pe_ix (ixL (K := K) rfl) (pe_lstI (pa_cons pe_int (pa_cons pe_int (pa_cons pe_int pa_nil)))) (pe_call (ok_l_take T) (hr.mono (by decide)) (by rfl) T.d_l_take.mg T.d_l_take.fn.kp T.d_l_take.b .nil pass0 (pa_cons (pv 0) (pa_cons pe_int pa_nil))) (fun _ _ => rfl)) pa_nil))) (pa_cons (pv 3) pa_nil)))))))))), ?_⟩
    refine ⟨_, rfl, rfl, fun l H1 s1 hl h1 => ?_⟩
    refine ⟨_, rfl, p, 2, n, rfl, hB.same s1, by omega, by decide, by decide, fun way H2 w0 w1 B1 F1 => ?_⟩
    have hne : l ≠ p := hB.new hl
    obtain ⟨m, em, h0, h9⟩ : ∃ m : Int, atI ([.int 5, .int 59] : List V) way = some (.int m) ∧ 0 < m ∧ m ≤ 59 := by
      have w2 : way = 0 ∨ way = 1 := by omega
      rcases w2 with e | e <;> subst e
      · exact ⟨_, rfl, by decide, by decide⟩
      · exact ⟨_, rfl, by decide, by decide⟩
    refine ⟨l, _, way, _, rfl, rfl, SqL.of (F1 _ _ hne h1), em, ?_⟩
    refine ⟨p, m, n + 1, rfl, B1, by omega, h0, by omega, fun z H3 z0 z1 B2 F2 => ?_⟩
    refine ⟨_, _, rfl, rfl, ?_⟩
    refine ⟨_, rfl, _, rfl, _, _, rfl, rfl, p, _, n + 2, rfl, B2, by omega, by omega, by omega, fun y H4 y0 y1 B3 F3 => ?_⟩
    refine ⟨_, _, rfl, rfl, _, rfl, ?_⟩
    refine ⟨_, _, 133, rfl, by omega, b133 (by omega), b133 (by omega), by decide, fun a H5 s5 n5 h5 _ => ?_⟩
    have lw := low_box (t := 1 + y) (b := 2 + z) (by omega) (by omega) (by omega)
    have e := rq_low (t := 1 + y) (b := 2 + z) (by omega)
    have B5 := B3.same s5
    refine ⟨_, rfl, p, n + 3, rfl, B5, by omega, fun r H6 r0 r1 B6 F6 => ?_⟩
    refine ⟨_, rfl, _, rfl, _, rfl, rfl, fun l2 H7 s7 n7 h7 => ?_⟩
    have B7 := B6.same s7
    have hne2 : l2 ≠ p := B6.new n7
    refine ⟨_, rfl, p, 3, n + 5, rfl, B7, by omega, by decide, by decide, fun way2 H8 u0 u1 B8 F8 => ?_⟩
    obtain ⟨m2, em2, g0, g9⟩ : ∃ m : Int, atI ([.int 4, .int 60, .int 10001] : List V) way2 = some (.int m) ∧ 0 < m ∧ m ≤ 10001 := by
      have w2 : way2 = 0 ∨ way2 = 1 ∨ way2 = 2 := by omega
      rcases w2 with e | e | e <;> subst e
      · exact ⟨_, rfl, by decide, by decide⟩
      · exact ⟨_, rfl, by decide, by decide⟩
      · exact ⟨_, rfl, by decide, by decide⟩
    refine ⟨l2, _, way2, _, rfl, rfl, SqL.of (F8 _ _ hne2 h7), em2, ?_⟩
    refine ⟨p, m2, n + 6, rfl, B8, by omega, g0, by omega, fun f H9 f0 f1 B9 F9 => ⟨_, rfl, rfl, fun c Ha sa na ha => ?_⟩⟩
    have F59 : Fr p H5 H9 := F6.trans ((Fr.of s7).trans (F8.trans F9))
    refine q _ (.tuple [.str x, .int r, .int f, .tuple [.int (low (1 + y) (2 + z)).1, .int (low (1 + y) (2 + z)).2]]) Ha ⟨c, a, r, f, _, _, rfl, SqT.of ha, ?_, ⟨nm, r0, r1, f0, by omega, lw.2.2.2.2 (by omega), lw.2.1, by have := lw.2.2.1; omega, lw.2.2.2.1⟩, rfl⟩ (B9.same sa) (((((Fr.of s1).trans F1).trans F2).trans (F3.trans (.of s5))).trans (F59.trans (.of sa)))
    rw [e]
    exact Same.tup sa (sqT_fr h5 B5 F59)

end
end KR
namespace KR
open PySem PySem.Spec PyProof.Rows L2
section
variable {P : Program} {w : World} {K : PySem.W.Frag} {mg : Str → Option Value} {base : Heap}
def sp_l_mould (K : PySem.W.Frag) : Sp := fun vs H Q _ => ∃ (p : Addr) (x : Str) (n : Nat), vs = [.ref p, .str x] ∧ BoxAt H p n ∧ n ≤ 999998000 ∧ Nm x ∧ ∀ (v : V) (d : PyData) (H' : Hp), MouAt K H' v x d → BoxAt H' p (n + 4) → Fr p H H' → Q v H'
theorem ok_l_mould (T : All K mg) : FnOk P w K mg base CX0 3 T.f_l_mould T.fd_l_mould ["_law_box_here", "_law_name"] (sp_l_mould K) := by
  refine T.d_l_mould.fn.ok sc_l_mould (fun vs H Q E h => ?_) (fun cdv A outer s H vs Q E hr h => ?_)
  · obtain ⟨p, x, n, rfl, _⟩ := h
    rfl
  · obtain ⟨p, x, n, rfl, hB, hn, nm, q⟩ := h
    refine ⟨_, (pss_cons (ps_set (i := 2) sc_l_mould.nd rfl (by first | exact Or.inl rfl | exact Or.inr rfl) (pe_op op_add pe_int (pe_call (ok_l_take T) (hr.mono (by decide)) (by rfl) T.d_l_take.mg T.d_l_take.fn.kp T.d_l_take.b .nil pass0 (pa_cons (pv 0) (pa_cons pe_int pa_nil)))))
      (pss_one (ps_ret (pe_tupI (pa_cons (pv 1) (pa_cons (pe_call (ok_l_room T) hr (by rfl) T.d_l_room.mg T.d_l_room.fn.kp T.d_l_room.b .nil pass0 (pa_cons (pv 0) pa_nil)) (pa_cons (pe_call (ok_l_low T) (hr.mono (by decide)) (by rfl) T.d_l_low.mg T.d_l_low.fn.kp T.d_l_low.b .nil pass0 (pa_cons (pe_call (ok_l_take T) (hr.mono (by decide)) (by rfl) T.d_l_take.mg T.d_l_take.fn.kp T.d_l_take.b .nil pass0 (pa_cons (pv 0) (pa_cons (pv 2) pa_nil))) (pa_cons (pv 2) pa_nil))) pa_nil))))))), ?_⟩
    refine ⟨_, rfl, p, 12, n, rfl, hB, by omega, by decide, by decide, fun z H1 z0 z1 B1 F1 => ?_⟩
    refine ⟨_, _, rfl, rfl, _, rfl, _, rfl, p, n + 1, rfl, B1, by omega, fun r H2 r0 r1 B2 F2 => ?_⟩
    refine ⟨_, rfl, _, rfl, p, _, n + 3, rfl, B2, by omega, by omega, by omega, fun y H3 y0 y1 B3 F3 => ?_⟩
    refine ⟨_, rfl, _, _, 133, rfl, by omega, b133 (by omega), b133 (by omega), by decide, fun a H4 s4 n4 h4 _ => ⟨rfl, fun c H5 s5 n5 h5 => ?_⟩⟩
    have lw := low_box (t := y) (b := 1 + z) (by omega) (by omega) (by omega)
    have e := rq_low (t := y) (b := 1 + z) (by omega)
    refine q _ (.tuple [.str x, .int r, .tuple [.int (low y (1 + z)).1, .int (low y (1 + z)).2]]) H5 ⟨c, a, r, _, _, rfl, SqT.of h5, ?_, ⟨nm, r0, r1, lw.1, lw.2.1, by have := lw.2.2.1; omega, lw.2.2.2.1⟩, rfl⟩ ((B3.same s4).same s5) ((F1.trans F2).trans (F3.trans (.of (s4.trans s5))))
    rw [e]
    exact Same.tup s5 h4

end
end KR
namespace KR
open PySem PySem.Spec PyProof.Rows L2
section
variable {P : Program} {w : World} {K : PySem.W.Frag} {mg : Str → Option Value} {base : Heap}
theorem cut_drop {xs : List V} {n : Nat} (h : n ≤ xs.length) : cutV xs (some (n : Int)) none = xs.drop n := by
  unfold cutV
  rw [HT.sIx_none, HT.sIx_nat, Nat.min_eq_left h]
  exact List.take_of_length_le (by rw [List.length_drop]; exact Nat.le_refl _)
theorem cut_takeN {xs : List V} {n : Nat} (h : n ≤ xs.length) : cutV xs none (some (n : Int)) = xs.take n := by
  unfold cutV
  rw [HT.sIx_none, HT.sIx_nat, List.drop_zero, Nat.sub_zero, Nat.min_eq_left h]
def sp_l_row (K : PySem.W.Frag) : Sp := fun vs H Q _ => ∃ (p : Addr) (n i j : Nat), vs = [.ref p, .int i, .int j] ∧ 1 ≤ i ∧ i ≤ 8 ∧ j ≤ 40 ∧ BoxAt H p n ∧ n ≤ 999980000 ∧ ∀ (a kl ml : Addr) (ks ms : List V) (ns nt : List Str) (ds es : List PyData) (H' : Hp), H' a = some (.tup [.ref kl, .ref ml]) → H' kl = some (.lst ks) → H' ml = some (.lst ms) →
  AllAt (KetAt K H') ks ns ds → AllAt (MouAt K H') ms nt es → ks.length = i → ms.length = j → (ns ++ nt).Nodup → (∀ x ∈ ns ++ nt, 113 ∉ TL.tl x) → BoxAt H' p (n + 300) → Fr p H H' → Q (.ref a) H'
theorem ok_l_row (T : All K mg) : FnOk P w K mg base CX0 4 T.f_l_row T.fd_l_row ["_law_box_here", "_law_kettles", "_law_moulds"] (sp_l_row K) := by
  refine T.d_l_row.fn.ok sc_l_row (fun vs H Q E h => ?_) (fun cdv A outer s H vs Q E hr h => ?_)
  · obtain ⟨p, n, i, j, rfl, _⟩ := h
    rfl
  · obtain ⟨p, n, i, j, rfl, i1, i8, j40, hB, hn, q⟩ := h
    refine ⟨_, (pss_cons (ps_set (i := 3) sc_l_row.nd rfl (by first | exact Or.inl rfl | exact Or.inr rfl) (pe_call (ok_l_names T) (hr.mono (by decide)) (by rfl) T.d_l_names.mg T.d_l_names.fn.kp T.d_l_names.b .nil pass0 (pa_cons (pv 0) (pa_cons (pe_op op_add (pv 1) (pv 2)) pa_nil))))
      (pss_cons (ps_setLc (i := 4) (own := [("_law_name", 5)]) (g := gName 5) (tt := tYes) (by rfl) sc_l_row.nd rfl rfl (sw_true rfl rfl rfl (by decide +kernel)) (pi_listK (K := K) rfl (pe_slice (slL (K := K) rfl) (pv 3) po_none (po_some (pv 1)))) (blkOk_by (own := [("_law_name", 5)]) (N := ["_law_box_here", "_law_kettles", "_law_moulds", "_law_names_here", "_law_found", "_law_name"]) (sc := defScope s_l_row) (by decide +kernel)) (fun _ _ _ _ _ => (pg_name (i := 5) sc_l_row.nd rfl (by first | exact Or.inl rfl | exact Or.inr rfl))) (fun _ _ _ _ _ => pts_nil) (fun _ _ _ _ _ => (pe_call (ok_l_kettle T) hr (by rfl) T.d_l_kettle.mg T.d_l_kettle.fn.kp T.d_l_kettle.b .nil pass0 (pa_cons (pv 0) (pa_cons (pv 5) pa_nil)))))
      (pss_one (ps_ret (pe_tupI (pa_cons (pv 4) (pa_cons (pe_lc (own := [("_law_name", 5)]) (g := gName 5) (tt := tYes) (by rfl) sc_l_row.nd (pi_listK (K := K) rfl (pe_slice (slL (K := K) rfl) (pv 3) (po_some (pv 1)) po_none)) (blkOk_by (own := [("_law_name", 5)]) (N := ["_law_box_here", "_law_kettles", "_law_moulds", "_law_names_here", "_law_found", "_law_name"]) (sc := defScope s_l_row) (by decide +kernel)) (fun _ _ _ _ _ => (pg_name (i := 5) sc_l_row.nd rfl (by first | exact Or.inl rfl | exact Or.inr rfl))) (fun _ _ _ _ _ => pts_nil) (fun _ _ _ _ _ => (pe_call (ok_l_mould T) hr (by rfl) T.d_l_mould.mg T.d_l_mould.fn.kp T.d_l_mould.b .nil pass0 (pa_cons (pv 0) (pa_cons (pv 5) pa_nil))))) pa_nil))))))), ?_⟩
    refine ⟨_, rfl, _, rfl, _, rfl, _, _, rfl, rfl, p, n, i + j, ?_, by omega, by omega, hB, by omega, fun l ts H1 hl lt nd nmtQ B1 F1 => ?_⟩
    · show [V.ref p, V.int ((i : Int) + (j : Int))] = [V.ref p, V.int ((i + j : Nat) : Int)]
      rw [Int.natCast_add]
    have nmt : ∀ y ∈ ts, Nm y := fun y hy => (nmtQ y hy).nm
    refine ⟨_, rfl, _, rfl, ?_⟩
    have lp : l ≠ p := fun z => by
      obtain ⟨a, b, c, h1, _⟩ := B1
      rw [← z, hl] at h1
      cases ts with
      | nil => simp at lt; omega
      | cons y r => cases h1
    have lv : (ts.map V.str).length = i + j := by rw [List.length_map, lt]
    refine ⟨_, rfl, l, _, rfl, SqL.of hl, fun sl H2 s2 n2 h2 => ?_⟩
    rw [cut_takeN (by omega)] at h2
    have B2 := B1.same s2
    refine ⟨sl, rfl, ⟨_, SqL.of h2⟩, fun D hD => ?_⟩
    have Dp := B2.new hD
    have slp : sl ≠ p := B1.new n2
    have slD : sl ≠ D := ne_of_none h2 hD
    refine lc_list (K := K) (a := sl) (xs := (ts.map V.str).take i) (fun k H' => ∃ (ks : List V) (ds : List PyData), AllAt (KetAt K H') ks (ts.take k) ds ∧ ks.length = k ∧ BoxAt H' p (n + 6 + 7 * k) ∧ Fr p H2 H' ∧ H' D = some (.lst ks)) ⟨[], [], .nil, rfl, B2.upd Dp, .of (same_new hD), upd_same⟩ (fun k H' _ ⟨_, _, _, _, _, F, _⟩ => SqL.of (F _ _ slp h2)) (fun k x H' hk w => ?_) (fun H' w => ?_)
    · obtain ⟨ks, ds, A, len, B, F, hl'⟩ := w
      have kl := (List.getElem?_eq_some_iff.mp hk).1
      rw [List.length_take] at kl
      have ki : k < i := by omega
      rw [List.getElem?_take_of_lt ki, List.getElem?_map] at hk
      obtain ⟨y, hy, rfl⟩ : ∃ y, ts[k]? = some y ∧ x = V.str y := by
        cases e : ts[k]? with
        | none => rw [e] at hk; cases hk
        | some y => rw [e] at hk; exact ⟨y, rfl, (Option.some.inj hk).symm⟩
      refine ⟨rfl, yesT ?_⟩
      have ym := nmt y (List.mem_of_getElem? hy)
      have nb : n + 6 + 7 * k ≤ 999998000 := by omega
      refine ⟨_, rfl, _, rfl, p, y, n + 6 + 7 * k, rfl, ?_⟩
      refine ⟨B, nb, ym, ?_⟩
      intro v d H4 kt B4 F4
      have hl4 := F4 _ _ Dp hl'
      have tk : TK K H4 (upd H4 D (.lst (ks ++ [v]))) := TK.upd hl4 (fun xs z => by cases z) (fun b y z => by cases z)
      refine ⟨_, hl4, by rw [len]; exact small' (by omega), ks ++ [v], ds ++ [d], ?_, by rw [List.length_append, len] <;> rfl, (B4.upd Dp).mono (by omega), Fr.put' (F.trans F4) hD, upd_same⟩
      have A4 : AllAt (KetAt K H4) ks (ts.take k) ds := A.map fun _ _ _ z => z.tk (TK.fr B F4)
      have A5 : AllAt (KetAt K H4) (ks ++ [v]) (ts.take k ++ [y]) (ds ++ [d]) := A4.snoc kt
      rw [take_one hy]
      exact A5.map fun _ _ _ z => z.tk tk
    · obtain ⟨ks, ds, A, len, B, F, hl'⟩ := w
      rw [List.length_take, lv, Nat.min_eq_left (by omega)] at A len B
      have hlH := F _ _ lp (s2 _ _ hl)
      refine ⟨_, rfl, ?_⟩
      refine ⟨_, rfl, _, rfl, _, rfl, l, _, rfl, SqL.of hlH, fun sl2 H3 s3 n3 h3 => ?_⟩
      rw [cut_drop (by omega)] at h3
      have B3 := B.same s3
      refine ⟨sl2, rfl, ⟨_, SqL.of h3⟩, fun E2 hE => ?_⟩
      have Ep := B3.new hE
      have slp2 : sl2 ≠ p := B.new n3
      have DE : D ≠ E2 := ne_of_none (s3 _ _ hl') hE
      refine lc_list (K := K) (a := sl2) (xs := (ts.map V.str).drop i) (fun k H' => ∃ (ms : List V) (es : List PyData), AllAt (MouAt K H') ms ((ts.drop i).take k) es ∧ ms.length = k ∧ BoxAt H' p (n + 6 + 7 * i + 4 * k) ∧ Fr p H3 H' ∧ TK K H3 H' ∧ H' E2 = some (.lst ms)) ⟨[], [], .nil, rfl, B3.upd Ep, .of (same_new hE), .same (same_new hE), upd_same⟩ (fun k H' _ ⟨_, _, _, _, _, F, _⟩ => SqL.of (F _ _ slp2 h3)) (fun k x H' hk w => ?_) (fun H' w => ?_)
      · obtain ⟨ms, es, A2, len2, B2', F2, tk2, hl2⟩ := w
        have kl := (List.getElem?_eq_some_iff.mp hk).1
        rw [List.length_drop] at kl
        rw [← List.map_drop, List.getElem?_map] at hk
        obtain ⟨y, hy, rfl⟩ : ∃ y, (ts.drop i)[k]? = some y ∧ x = V.str y := by
          cases e : (ts.drop i)[k]? with
          | none => rw [e] at hk; cases hk
          | some y => rw [e] at hk; exact ⟨y, rfl, (Option.some.inj hk).symm⟩
        refine ⟨rfl, yesT ?_⟩
        have ym := nmt y (List.mem_of_mem_drop (List.mem_of_getElem? hy))
        have nb : n + 6 + 7 * i + 4 * k ≤ 999998000 := by omega
        refine ⟨_, rfl, _, rfl, p, y, n + 6 + 7 * i + 4 * k, rfl, ?_⟩
        refine ⟨B2', nb, ym, ?_⟩
        intro v d H4 kt B4 F4
        have hl4 := F4 _ _ Ep hl2
        have tk : TK K H4 (upd H4 E2 (.lst (ms ++ [v]))) := TK.upd hl4 (fun xs z => by cases z) (fun b y z => by cases z)
        refine ⟨_, hl4, by rw [len2]; exact small' (by omega), ms ++ [v], es ++ [d], ?_, by rw [List.length_append, len2] <;> rfl, (B4.upd Ep).mono (by omega), Fr.put' (F2.trans F4) hE, (tk2.trans (TK.fr B2' F4)).trans tk, upd_same⟩
        have A4 : AllAt (MouAt K H4) ms ((ts.drop i).take k) es := A2.map fun _ _ _ z => z.tk (TK.fr B2' F4)
        have A5 : AllAt (MouAt K H4) (ms ++ [v]) ((ts.drop i).take k ++ [y]) (es ++ [d]) := A4.snoc kt
        rw [take_one hy]
        exact A5.map fun _ _ _ z => z.tk tk
      · obtain ⟨ms, es, A2, len2, B2', F2, tk2, hl2⟩ := w
        have ld : ((ts.map V.str).drop i).length = j := by rw [List.length_drop]; omega
        have ld2 : (ts.drop i).length = j := by rw [List.length_drop]; omega
        rw [ld] at A2 len2 B2'
        rw [← ld2, List.take_length] at A2
        refine ⟨rfl, fun c H5 s5 n5 h5 => ?_⟩
        refine q c D E2 ks ms (ts.take i) (ts.drop i) ds es H5 h5 (s5 _ _ (F2 _ _ Dp (s3 _ _ hl'))) (s5 _ _ hl2) (A.map fun _ _ _ z => ((z.tk (.same s3)).tk tk2).tk (.same s5)) (A2.map fun _ _ _ z => z.tk (.same s5)) len len2 (by rw [List.take_append_drop]; exact nd) (by rw [List.take_append_drop]; exact fun x hx => (nmtQ x hx).no) ((B2'.same s5).mono (by omega)) (F1.trans ((Fr.of s2).trans (F.trans ((Fr.of s3).trans (F2.trans (.of s5))))))

end
end KR
namespace KR
open PySem PySem.Spec PyProof.Rows L2
section
variable {P : Program} {w : World} {K : PySem.W.Frag} {mg : Str → Option Value} {base : Heap}
theorem tl_of (x : String) : TL.tl (Str.ofString x) = x.toList.map Char.toNat := by
  rw [PySem.Str.ofString_eq_toList]
theorem num_Z (t : Int) : Str.ofString (toString t) = S ((if t < 0 then [45] else []) ++ TL.numL t.natAbs) := by
  by_cases h : t < 0
  · apply TL.ext_tl
    rw [if_pos h, tl_of, PyProof.Rows.toString_neg h, String.toList_append, List.map_append, ← tl_of, ← tl_of, show (0 : Int) - t = ((t.natAbs : Nat) : Int) by omega, TL.tl_num]
    rfl
  · rw [if_neg h]
    have e := num_S t.natAbs
    rw [show ((t.natAbs : Nat) : Int) = t by omega] at e
    exact e
def sp_l_frac_text (K : PySem.W.Frag) : Sp := fun vs H Q _ => ∃ (a : Addr) (t b : Int), vs = [.ref a] ∧ SqT K H a [.int t, .int b] ∧ t.natAbs < 10 ^ 40 ∧ 0 < b ∧ b.natAbs < 10 ^ 40 ∧ Q (.str (S (fracL t b))) H
theorem ok_l_frac_text (T : All K mg) : FnOk P w K mg base CX0 1 T.f_l_frac_text T.fd_l_frac_text ["_law_one"] (sp_l_frac_text K) := by
  refine T.d_l_frac_text.fn.ok sc_l_frac_text (fun vs H Q E h => ?_) (fun cdv A outer s H vs Q E hr h => ?_)
  · obtain ⟨a, t, b, rfl, _⟩ := h
    rfl
  · obtain ⟨a, t, b, rfl, ha, ht, b0, hb, q⟩ := h
    refine ⟨_, (pss_one (ps_ret (pe_op op_add_str (pe_callTy call_str_int (by rfl) T.b_str (by decide +kernel) (pa_cons (pe_ix (ixT (K := K) rfl) (pv 0) pe_int (fun _ _ => rfl)) pa_nil)) (pe_op op_mul_str (pe_op op_add_str pe_str (pe_callTy call_str_int (by rfl) T.b_str (by decide +kernel) (pa_cons (pe_ix (ixT (K := K) rfl) (pv 0) pe_int (fun _ _ => rfl)) pa_nil))) (pe_callTy call_int1 (by rfl) T.b_int (by decide +kernel) (pa_cons (pe_cmpR op_gt (pe_ix (ixT (K := K) rfl) (pv 0) pe_int (fun _ _ => rfl)) pe_int (nomark _)) pa_nil)))))), ?_⟩
    have lg : ∀ {n : Nat}, n < 10 ^ 40 → n.log2 < 1920 := fun h => Nat.lt_trans (PySem.Flt.log2_lt_of (by decide) (b40 h)) (by decide)
    have lt9 := TL.numL_len (k := 40) (by decide) ht
    have lb9 := TL.numL_len (k := 40) (by decide) hb
    have ls9 : (if t < 0 then [45] else [] : List Nat).length ≤ 1 := by split <;> decide
    have bn : ¬ b < 0 := by omega
    have la : ((if t < 0 then [45] else [] : List Nat) ++ TL.numL t.natAbs).length ≤ 41 := by
      rw [List.length_append]
      omega
    refine ⟨_, rfl, a, _, 0, _, rfl, rfl, ha, at0, t, rfl, lg ht, ?_⟩
    rw [show Str.ofString (toString t) = _ from num_Z t]
    refine ⟨_, rfl, a, _, 1, _, rfl, rfl, ha, at1, b, rfl, lg hb, ?_⟩
    rw [show Str.ofString (toString b) = _ from num_Z b, if_neg bn, List.nil_append]
    refine ⟨_, _, rfl, rfl, ?_, ?_⟩
    · rw [lit_stroke, S_len, S_len]
      exact small (by show 1 + _ ≤ 100000; omega)
    refine ⟨_, rfl, a, _, 1, _, rfl, rfl, ha, at1, _, _, rfl, rfl, .inr ⟨_, rfl, ?_⟩⟩
    have es : ("/" : Str) ++ S (TL.numL b.natAbs) = S (47 :: TL.numL b.natAbs) := by rw [lit_stroke, S_app] <;> rfl
    rw [es]
    by_cases b1 : b = 1
    · refine ⟨_, 0, rfl, by rw [if_neg (by rw [decide_eq_false (show ¬ (1 < b) by omega)]; exact Bool.false_ne_true)] <;> rfl, by rw [Nat.mul_zero]; decide, by decide, _, _, rfl, rfl, ?_, ?_⟩
      · rw [mul_zero, S_len, S_len]
        exact small (by show _ + 0 ≤ 100000; omega)
      · rw [mul_zero, S_app, List.append_nil]
        have e : S ((if t < 0 then [45] else []) ++ TL.numL t.natAbs) = S (fracL t b) := by
          unfold fracL
          rw [if_pos b1, List.append_nil]
        rw [e]
        exact q
    · refine ⟨_, 1, rfl, by rw [if_pos (decide_eq_true (show 1 < b by omega))] <;> rfl, by rw [Nat.mul_one, S_len, List.length_cons]; omega, by decide, _, _, rfl, rfl, ?_, ?_⟩
      · rw [mul_one, S_len, S_len, List.length_cons]
        exact small (by show _ ≤ 100000; omega)
      · rw [mul_one, S_app]
        have e : S ((if t < 0 then [45] else []) ++ TL.numL t.natAbs ++ 47 :: TL.numL b.natAbs) = S (fracL t b) := by
          unfold fracL
          rw [if_neg b1, List.append_assoc]
        rw [e]
        exact q

end
end KR
namespace KR
open PySem PySem.Spec PyProof.Rows L2
section
variable {P : Program} {w : World} {K : PySem.W.Frag} {mg : Str → Option Value} {base : Heap}
def sp_l_rows (K : PySem.W.Frag) : Sp := fun vs H Q _ => ∃ (kl ml : Addr) (ks ms : List V) (ns nt : List Str) (ds es : List PyData), vs = [.ref kl, .ref ml] ∧ SqL K H kl ks ∧ AllAt (KetAt K H) ks ns ds ∧ SqL K H ml ms ∧ AllAt (MouAt K H) ms nt es ∧ ds.length ≤ 9 ∧ es.length ≤ 41 ∧ ∀ (l : Addr) (H' : Hp), Same H H' → H' l = some (.lst (((ds ++ es).map lineD).map V.str)) → Q (.ref l) H'
theorem num_N {r : Int} (h : 0 ≤ r) : Str.ofString (toString r) = S (TL.numL r.natAbs) := by
  rw [num_Z, if_neg (by omega), List.nil_append]
theorem lg_of {r : Int} (h : r.natAbs ≤ 1000000) : r.natAbs.log2 < 1920 := Nat.lt_trans (PySem.Flt.log2_lt_of (by decide) (Nat.lt_of_le_of_lt h (by decide : 1000000 < 2 ^ 20))) (by decide)
theorem ok_l_rows (T : All K mg) : FnOk P w K mg base CX0 2 T.f_l_rows T.fd_l_rows ["_law_kettles", "_law_moulds"] (sp_l_rows K) := by
  refine T.d_l_rows.fn.ok sc_l_rows (fun vs H Q E h => ?_) (fun cdv A outer s H vs Q E hr h => ?_)
  · obtain ⟨kl, ml, ks, ms, ns, nt, ds, es, rfl, _⟩ := h
    rfl
  · obtain ⟨kl, ml, ks, ms, ns, nt, ds, es, rfl, hk, AK, hm, AM, k9, m41, q⟩ := h
    refine ⟨_, (pss_cons (ps_set (i := 2) sc_l_rows.nd rfl (by first | exact Or.inl rfl | exact Or.inr rfl) (pe_lstI pa_nil))
      (pss_cons (ps_for PassesOwn.never rfl (pi_listK (K := K) rfl (pv 0)) (pg_tupK (K := K) rfl rfl (pgs_cons (pg_name (i := 3) sc_l_rows.nd rfl (by first | exact Or.inl rfl | exact Or.inr rfl)) (pgs_cons (pg_name (i := 4) sc_l_rows.nd rfl (by first | exact Or.inl rfl | exact Or.inr rfl)) (pgs_cons (pg_name (i := 5) sc_l_rows.nd rfl (by first | exact Or.inl rfl | exact Or.inr rfl)) (pgs_cons (pg_name (i := 6) sc_l_rows.nd rfl (by first | exact Or.inl rfl | exact Or.inr rfl)) pgs_nil))))) (pss_one (ps_expr (pe_bm PySem.F.plainAttrs_list PySem.F.slot_list_append PySem.F.type_list_append mt_append (pv 2) (pa_cons (pe_join pe_str (pe_lstI (pa_cons pe_str (pa_cons (pv 3) (pa_cons (pe_callTy call_str_int (by rfl) T.b_str (by decide +kernel) (pa_cons (pv 4) pa_nil)) (pa_cons (pe_callTy call_str_int (by rfl) T.b_str (by decide +kernel) (pa_cons (pv 5) pa_nil)) (pa_cons (pe_call (ok_l_frac_text T) hr (by rfl) T.d_l_frac_text.mg T.d_l_frac_text.fn.kp T.d_l_frac_text.b .nil pass0 (pa_cons (pv 6) pa_nil)) pa_nil))))))) pa_nil)))))
      (pss_cons (ps_for PassesOwn.never rfl (pi_listK (K := K) rfl (pv 1)) (pg_tupK (K := K) rfl rfl (pgs_cons (pg_name (i := 3) sc_l_rows.nd rfl (by first | exact Or.inl rfl | exact Or.inr rfl)) (pgs_cons (pg_name (i := 4) sc_l_rows.nd rfl (by first | exact Or.inl rfl | exact Or.inr rfl)) (pgs_cons (pg_name (i := 7) sc_l_rows.nd rfl (by first | exact Or.inl rfl | exact Or.inr rfl)) pgs_nil)))) (pss_one (ps_expr (pe_bm PySem.F.plainAttrs_list PySem.F.slot_list_append PySem.F.type_list_append mt_append (pv 2) (pa_cons (pe_join pe_str (pe_lstI (pa_cons pe_str (pa_cons (pv 3) (pa_cons (pe_callTy call_str_int (by rfl) T.b_str (by decide +kernel) (pa_cons (pv 4) pa_nil)) (pa_cons (pe_call (ok_l_frac_text T) hr (by rfl) T.d_l_frac_text.mg T.d_l_frac_text.fn.kp T.d_l_frac_text.b .nil pass0 (pa_cons (pv 7) pa_nil)) pa_nil)))))) pa_nil)))))
      (pss_one (ps_ret (pv 2)))))), ?_⟩
    refine ⟨rfl, fun fl H1 s1 n1 h1 => ?_⟩
    refine ⟨_, rfl, kl, rfl, ⟨_, s1.seq hk⟩, for_list (K := K) (a := kl) (xs := ks) (fun i σ H' => ∃ v3 v4 v5 v6 v7 : Option V, σ = [some (.ref kl), some (.ref ml), some (.ref fl), v3, v4, v5, v6, v7] ∧ Same H H' ∧ H' fl = some (.lst (((ds.take i).map lineD).map V.str))) ⟨_, _, _, _, _, rfl, s1, h1⟩ (fun i σ H' _ ⟨_, _, _, _, _, _, z, _⟩ => z.seq hk) ?_ ?_⟩
    · rintro i v σ H2 hv ⟨v3, v4, v5, v6, v7, rfl, s2, h2⟩
      obtain ⟨x, d, hx, hd, a, m, r, f, t, b, rfl, ha, hm2, k, rfl⟩ := AK.get hv
      have := k.r0; have := k.r1; have := k.f0; have := k.f1; have := k.t0; have := k.tb; have := k.b1
      have i8 : i < 9 := by have := (List.getElem?_eq_some_iff.mp hd).1; omega
      refine ⟨a, _, rfl, Same.tup s2 ha, rfl, _, _, rfl, _, _, rfl, _, _, rfl, _, _, rfl, rfl, ?_⟩
      refine ⟨_, rfl, .inl ⟨rfl, _, SqL.of h2⟩, ⟨_, rfl⟩, _, rfl, _, rfl, r, rfl, lg_of (by omega), _, rfl, f, rfl, lg_of (by omega), _, rfl, m, t, b, rfl, Same.tup s2 hm2, nat40 (by omega), by omega, nat40 (by omega), rfl, fun l H3 s3 n3 h3 => ?_⟩
      rw [num_N (show 0 ≤ r by omega), num_N (show 0 ≤ f by omega)] at h3
      have W := wordsK (x := x) ⟨r, f, t, b, k, rfl⟩
      have h2' := s3 _ _ h2
      refine ⟨" ", l, wordsD (.tuple [.str x, .int r, .int f, .tuple [.int t, .int b]]), rfl, rfl, .inl (SqL.of h3), join_fits (fun w hw => (W.1 w hw).2) W.2.1 (by decide) len_blank, ?_⟩
      refine ⟨fl, _, _, rfl, rfl, h2', by rw [List.length_map, List.length_map, List.length_take]; exact small' (by omega), ?_⟩
      refine ⟨_, _, _, _, _, rfl, Same.put (s2.trans s3) n1, ?_⟩
      rw [upd_same, take_one hd, List.map_append, List.map_append] <;> rfl
    · rintro σ H2 ⟨v3, v4, v5, v6, v7, rfl, s2, h2⟩
      rw [show ks.length = ds.length from AK.ld, List.take_length] at h2
      refine ⟨_, rfl, ml, rfl, ⟨_, s2.seq hm⟩, for_list (K := K) (a := ml) (xs := ms) (fun i σ H' => ∃ v3 v4 v5 v6 v7 : Option V, σ = [some (.ref kl), some (.ref ml), some (.ref fl), v3, v4, v5, v6, v7] ∧ Same H H' ∧ H' fl = some (.lst (((ds ++ es.take i).map lineD).map V.str))) ⟨_, _, _, _, _, rfl, s2, by rw [List.take_zero, List.append_nil]; exact h2⟩ (fun i σ H' _ ⟨_, _, _, _, _, _, z, _⟩ => z.seq hm) ?_ ?_⟩
      · rintro i v σ H3 hv ⟨v3, v4, v5, v6, v7, rfl, s3, h3⟩
        obtain ⟨x, d, hx, hd, a, m, r, t, b, rfl, ha, hm2, k, rfl⟩ := AM.get hv
        have := k.r0; have := k.r1; have := k.t0; have := k.tb; have := k.b1
        have i8 : i < 41 := by have := (List.getElem?_eq_some_iff.mp hd).1; omega
        refine ⟨a, _, rfl, Same.tup s3 ha, rfl, _, _, rfl, _, _, rfl, _, _, rfl, rfl, ?_⟩
        refine ⟨_, rfl, .inl ⟨rfl, _, SqL.of h3⟩, ⟨_, rfl⟩, _, rfl, _, rfl, r, rfl, lg_of (by omega), _, rfl, m, t, b, rfl, Same.tup s3 hm2, nat40 (by omega), by omega, nat40 (by omega), rfl, fun l H4 s4 n4 h4 => ?_⟩
        rw [num_N (show 0 ≤ r by omega)] at h4
        have W := wordsM (x := x) ⟨r, t, b, k, rfl⟩
        have h3' := s4 _ _ h3
        refine ⟨" ", l, wordsD (.tuple [.str x, .int r, .tuple [.int t, .int b]]), rfl, rfl, .inl (SqL.of h4), join_fits (fun w hw => (W.1 w hw).2) W.2.1 (by decide) len_blank, ?_⟩
        refine ⟨fl, _, _, rfl, rfl, h3', by rw [List.length_map, List.length_map, List.length_append, List.length_take]; exact small' (by omega), ?_⟩
        refine ⟨_, _, _, _, _, rfl, Same.put (s3.trans s4) n1, ?_⟩
        rw [upd_same]
        simp only [take_one hd, List.map_append, List.append_assoc, List.map_cons, List.map_nil]
        rfl
      · rintro σ H3 ⟨v3, v4, v5, v6, v7, rfl, s3, h3⟩
        rw [show ms.length = es.length from AM.ld, List.take_length] at h3
        exact ⟨_, rfl, q fl H3 s3 h3⟩

end
end KR
namespace KR
open PySem PySem.Spec PyProof.Rows L2
section
variable {P : Program} {w : World} {K : PySem.W.Frag} {mg : Str → Option Value} {base : Heap}
def sp_p_is_number (K : PySem.W.Frag) : Sp := fun vs H Q _ => ∃ (p : Addr) (n : Nat) (v : V) (d : PyData), vs = [v] ∧ Dj K p H n v d ∧ Q (.bl (isNumD d)) H
theorem ok_p_is_number (T : All K mg) : FnOk P w K mg base CX0 1 T.f_p_is_number T.fd_p_is_number ["thing"] (sp_p_is_number K) := by
  refine T.d_p_is_number.fn.ok sc_p_is_number (fun vs H Q E h => ?_) (fun cdv A outer s H vs Q E hr h => ?_)
  · obtain ⟨p, n, v, d, rfl, _⟩ := h
    rfl
  · obtain ⟨p, n, v, d, rfl, hd, q⟩ := h
    refine ⟨_, (pss_one (ps_ret (pe_and (pe_callB (isiK (K := K) rfl) (by rfl) T.b_isinstance (by decide +kernel) (pa_cons (pv 0) (pa_cons (pe_bltn (v := .ty "int") (by rfl) T.b_int (by decide +kernel) rfl) pa_nil))) (pe_one (pe_not (pe_callB (isiK (K := K) rfl) (by rfl) T.b_isinstance (by decide +kernel) (pa_cons (pv 0) (pa_cons (pe_bltn (v := .ty "bool") (by rfl) T.b_bool (by decide +kernel) rfl) pa_nil)))))))), ?_⟩
    obtain ⟨t, k⟩ := hd.kinds
    refine ⟨_, rfl, _, _, _, _, _, rfl, .ty _, k.ty, kit_ty k.int, _, rfl, ?_⟩
    unfold isNumD at q
    cases c : isIntD d with
    | false =>
      rw [c] at q
      exact iteF q
    | true =>
      rw [c] at q
      refine iteT ?_
      refine ⟨_, rfl, _, _, _, _, _, rfl, .ty _, k.ty, kit_ty k.bool, _, rfl, ?_⟩
      exact q

end
end KR
namespace KR
open PySem PySem.Spec PyProof.Rows L2
section
variable {P : Program} {w : World} {K : PySem.W.Frag} {mg : Str → Option Value} {base : Heap}
def sp_p_is_number_within (K : PySem.W.Frag) : Sp := fun vs H Q _ => ∃ (v : V) (p : Pt) (l m : Int), vs = [v, .int l, .int m] ∧ PtAt K H v p ∧ Q (.bl (numB l m p)) H
theorem ok_p_is_number_within (T : All K mg) : FnOk P w K mg base CX0 2 T.f_p_is_number_within T.fd_p_is_number_within ["thing", "least", "most"] (sp_p_is_number_within K) := by
  refine T.d_p_is_number_within.fn.ok sc_p_is_number_within (fun vs H Q E h => ?_) (fun cdv A outer s H vs Q E hr h => ?_)
  · obtain ⟨v, p, l, m, rfl, _⟩ := h
    rfl
  · obtain ⟨v, p, l, m, rfl, hp, q⟩ := h
    refine ⟨_, (pss_one (ps_ret (pe_and (pe_call (ok_p_is_number T) hr (by rfl) T.d_p_is_number.mg T.d_p_is_number.fn.kp T.d_p_is_number.b .nil pass0 (pa_cons (pv 0) pa_nil)) (pe_one (pe_chain op_le op_le (pv 1) (pv 0) (pv 2)))))), ?_⟩
    refine ⟨_, rfl, 0, 2, _, _, rfl, hp.dj, _, rfl, ?_⟩
    cases p with
    | i n =>
      obtain ⟨rfl, _⟩ : v = .int n ∧ _ := hp
      refine iteT ?_
      refine ⟨_, rfl, _, rfl, _, _, rfl, rfl, _, rfl, ?_⟩
      by_cases c : l ≤ n
      · refine ite_bT (decide_eq_true c) ?_
        refine ⟨_, rfl, _, _, rfl, rfl, ?_⟩
        have q2 : Q (.bl (decide (l ≤ n) && decide (n ≤ m))) H := q
        rw [decide_eq_true c] at q2
        exact q2
      · refine ite_bF (decide_eq_false c) ?_
        have q2 : Q (.bl (decide (l ≤ n) && decide (n ≤ m))) H := q
        rw [decide_eq_false c] at q2
        exact q2
    | s x => exact iteF q
    | o => exact iteF q
    | f t b => exact iteF q

end
end KR
namespace KR
open PySem PySem.Spec PyProof.Rows L2
section
variable {P : Program} {w : World} {K : PySem.W.Frag} {mg : Str → Option Value} {base : Heap}
def sp_p_is_frac (K : PySem.W.Frag) : Sp := fun vs H Q _ => ∃ (p : Addr) (n : Nat) (v : V) (d : PyData), vs = [v] ∧ Dj K p H n v d ∧ Q (.bl (isFracD d)) H
theorem ok_p_is_frac (T : All K mg) : FnOk P w K mg base CX0 2 T.f_p_is_frac T.fd_p_is_frac ["thing"] (sp_p_is_frac K) := by
  refine T.d_p_is_frac.fn.ok sc_p_is_frac (fun vs H Q E h => ?_) (fun cdv A outer s H vs Q E hr h => ?_)
  · obtain ⟨p, n, v, d, rfl, _⟩ := h
    rfl
  · obtain ⟨p, n, v, d, rfl, hd, q⟩ := h
    refine ⟨_, (pss_cons (ps_if (PW.pt (pw_or (pt_not (pt_val (pe_callB (isiK (K := K) rfl) (by rfl) T.b_isinstance (by decide +kernel) (pa_cons (pv 0) (pa_cons (pe_bltn (v := .ty "tuple") (by rfl) T.b_tuple (by decide +kernel) rfl) pa_nil))))) (pw_or1 (pt_cmpR op_ne (pe_callB (lenQ (K := K) rfl) (by rfl) T.b_len PySem.boot_len (pa_cons (pv 0) pa_nil)) pe_int (nomark _))))) (pss_one (ps_ret pe_bl)) pss_nil)
      (pss_cons (ps_asg (pv 0) (pg_tupK (K := K) rfl rfl (pgs_cons (pg_name (i := 1) sc_p_is_frac.nd rfl (by first | exact Or.inl rfl | exact Or.inr rfl)) (pgs_cons (pg_name (i := 2) sc_p_is_frac.nd rfl (by first | exact Or.inl rfl | exact Or.inr rfl)) pgs_nil))))
      (pss_cons (ps_if (PW.pt (pw_or (pt_not (pt_val (pe_call (ok_p_is_number T) hr (by rfl) T.d_p_is_number.mg T.d_p_is_number.fn.kp T.d_p_is_number.b .nil pass0 (pa_cons (pv 1) pa_nil)))) (pw_or1 (pt_not (pt_val (pe_call (ok_p_is_number T) hr (by rfl) T.d_p_is_number.mg T.d_p_is_number.fn.kp T.d_p_is_number.b .nil pass0 (pa_cons (pv 2) pa_nil))))))) (pss_one (ps_ret pe_bl)) pss_nil)
      (pss_one (ps_ret (pe_and (pe_cmpR op_gt (pv 2) pe_int (nomark _)) (pe_one (pe_cmpR op_eq (pe_callBfun cr_gcd (by rfl) T.m_gcd (pa_cons (pv 1) (pa_cons (pv 2) pa_nil))) pe_int (nomark _))))))))), ?_⟩
    obtain ⟨t, k⟩ := hd.kinds
    refine ⟨_, rfl, _, _, _, _, _, rfl, .ty _, k.ty, kit_ty k.tup, _, rfl, ?_⟩
    cases hd with
    | tup h1 h2 h3 h4 =>
      rename_i n a xs ds
      refine iteF ?_
      refine ⟨_, rfl, a, xs, rfl, .inr h1, rfl, _, rfl, ?_⟩
      by_cases two : xs.length = 2
      · refine ite_nF (by omega) ?_
        match xs, ds, two, h2, h1, h3, h4 with
        | [x, y], [dx, dy], _, _, h1, h3, h4 =>
          have X := h4 0 x dx rfl rfl
          have Y := h4 1 y dy rfl rfl
          refine ⟨_, rfl, a, _, rfl, h1, rfl, _, _, rfl, _, _, rfl, rfl, ?_⟩
          refine ⟨_, rfl, p, n, x, dx, rfl, X, _, rfl, ?_⟩
          cases c1 : isNumD dx with
          | false =>
            rw [frac_no (.inl c1)] at q
            exact iteT (iteT q)
          | true =>
            refine iteF ?_
            refine ⟨_, rfl, p, n, y, dy, rfl, Y, _, rfl, ?_⟩
            cases c2 : isNumD dy with
            | false =>
              rw [frac_no (.inr c2)] at q
              exact iteT q
            | true =>
              refine iteF ?_
              obtain ⟨i, rfl, rfl, _⟩ := dj_num X c1
              obtain ⟨j, rfl, rfl, _⟩ := dj_num Y c2
              refine ⟨_, rfl, _, _, rfl, rfl, _, rfl, ?_⟩
              have q' : Q (.bl (decide (0 < j) && decide (Nat.gcd i.natAbs j.natAbs = 1))) H := q
              by_cases pos : 0 < j
              · rw [decide_eq_true pos] at q'
                refine ite_bT (decide_eq_true pos) ?_
                refine ⟨_, rfl, _, rfl, _, _, rfl, rfl, ?_⟩
                have e : decide (V.int ((Nat.gcd i.natAbs j.natAbs : Nat) : Int) = V.int 1) = decide (Nat.gcd i.natAbs j.natAbs = 1) := by
                  by_cases z : Nat.gcd i.natAbs j.natAbs = 1
                  · rw [decide_eq_true z, z] <;> rfl
                  · rw [decide_eq_false z, decide_eq_false fun y => z (by have := V.int.inj y; omega)]
                rw [e]
                exact q'
              · rw [decide_eq_false pos] at q'
                exact ite_bF (decide_eq_false pos) q'
      · refine ite_nT (by omega) ?_
        rw [frac_len (by omega)] at q
        exact q
    | non => exact iteT q
    | bl => exact iteT q
    | int => exact iteT q
    | str => exact iteT q
    | lst => exact iteT q

end
end KR
namespace KR
open PySem PySem.Spec PyProof.Rows L2
section
variable {P : Program} {w : World} {K : PySem.W.Frag} {mg : Str → Option Value} {base : Heap}
def sp_p_is_name (K : PySem.W.Frag) (P : Addr) : Sp := fun vs H Q _ => ∃ (v : V) (p : Pt), vs = [v] ∧ PtAt K H v p ∧ GxR.TabG H P ∧ ∀ H', Sm H H' → Q (.bl (nameB p)) H'
theorem le_sign {a b : Nat} (h : a ≤ b) : (!decide ([b] < [a])) = true := by
  rw [Bool.not_eq_true', decide_eq_false_iff_not, List.cons_lt_cons_iff]
  rintro (z | ⟨_, z⟩)
  · omega
  · exact absurd z (by simp)
theorem gt_sign {a b : Nat} (h : b < a) : (!decide ([b] < [a])) = false := by
  rw [Bool.not_eq_false', decide_eq_true_iff, List.cons_lt_cons_iff]
  exact .inl h
theorem ok_p_is_name (T : All K mg) (B : Tabs T base) : FnOk P w K mg base CX0 1 T.f_p_is_name T.fd_p_is_name ["thing"] (sp_p_is_name K T.P_p_is_name) := by
  refine T.k_p_is_name.ok sc_p_is_name (fun vs H Q E h => ?_) (fun cdv A outer s H vs Q E hc hr h => ?_)
  · obtain ⟨v, p, rfl, _⟩ := h
    rfl
  · obtain ⟨v, p, rfl, hp, hT, q⟩ := h
    refine ⟨_, (pss_cons (ps_if (PW.pt (pw_or (pt_not (pt_val (pe_callB (isiK (K := K) rfl) (by rfl) T.b_isinstance (by decide +kernel) (pa_cons (pv 0) (pa_cons (pe_bltn (v := .ty "str") (by rfl) T.b_str (by decide +kernel) rfl) pa_nil))))) (pw_or1 (pt_not (pt_chain op_le op_le pe_int (pe_callB call_len_str (by rfl) T.b_len PySem.boot_len (pa_cons (pv 0) pa_nil)) (pe_glob (v := .int 8) rfl T.c_MOST_LETTERS ⟨_, rfl⟩)))))) (pss_one (ps_ret pe_bl)) pss_nil)
      (pss_one (ps_ret (pe_allG hr (by rfl) T.b_all (by decide +kernel) B.t_p_is_name hc ⟨rfl, rfl, by decide +kernel, by decide +kernel, rfl, rfl⟩ (pi_str (pv 0)) (fun _ _ _ _ _ _ => (pe_chain op_le_str op_le_str pe_str (pv 0) pe_str)) (by intro _; rfl))))), ?_⟩
    have D := hp.dj (q := 0)
    obtain ⟨t, k⟩ := D.kinds
    refine ⟨_, rfl, _, _, _, _, _, rfl, .ty _, k.ty, kit_ty k.str, _, rfl, ?_⟩
    cases p with
    | i n => exact iteT (q H .refl)
    | o => exact iteT (q H .refl)
    | f t b => exact iteT (q H .refl)
    | s x =>
    obtain ⟨rfl, lx⟩ : v = .str x ∧ _ := hp
    refine iteF ?_
    refine ⟨_, rfl, _, rfl, small (by omega), _, _, rfl, rfl, _, rfl, ?_⟩
    by_cases c1 : 1 ≤ x.length
    case' neg =>
      refine ite_bF (decide_eq_false (by omega)) ⟨_, rfl, iteT ?_⟩
      have e : nameB (.s x) = false := decide_eq_false fun z => c1 z.1
      rw [e] at q
      exact q H .refl
    refine ite_bT (decide_eq_true (by omega)) ?_
    refine ⟨_, _, rfl, rfl, _, rfl, ?_⟩
    by_cases c8 : x.length ≤ 8
    case' neg =>
      rw [decide_eq_false (show ¬ ((x.length : Nat) : Int) ≤ 8 by omega)]
      refine iteT ?_
      have e : nameB (.s x) = false := decide_eq_false fun z => c8 z.2.1
      rw [e] at q
      exact q H .refl
    rw [decide_eq_true (show ((x.length : Nat) : Int) ≤ 8 by omega)]
    refine iteF ?_
    refine ⟨_, rfl, x, rfl, hT, x.length, fun i H' => Sm H H' ∧ i ≤ x.length ∧ ∀ c ∈ (TL.tl x).take i, 97 ≤ c ∧ c ≤ 122, fun H2 tb => ⟨Sm.tabbed tb hT, Nat.zero_le _, fun c hc => absurd hc List.not_mem_nil⟩, fun i H2 ⟨sm, le, al⟩ => ?_⟩
    have tlx : (TL.tl x).length = x.length := (TL.len_tl x).symm
    by_cases c : x.cps.size ≤ i
    · refine .inl ⟨c, ?_⟩
      have e : nameB (.s x) = true := decide_eq_true ⟨c1, c8, fun c2 hc2 => al c2 (by rw [List.take_of_length_le (by rw [tlx]; exact c)]; exact hc2)⟩
      rw [e] at q
      exact q H2 sm
    · refine .inr ⟨by show i < x.cps.size; omega, by show i < x.cps.size; omega, fun y H3 ⟨e3, z, hz, ey⟩ => ?_⟩
      subst e3 ey
      have hz2 : (TL.tl x)[i]? = some z := by
        rw [← Array.getElem?_toList] at hz
        exact hz
      have no : (¬ (97 ≤ z ∧ z ≤ 122)) → nameB (.s x) = false := fun n => decide_eq_false fun w => n (w.2.2 z (List.mem_of_getElem? hz2))
      refine ⟨_, rfl, _, _, rfl, rfl, _, rfl, ?_⟩
      by_cases d1 : 97 ≤ z
      case' neg =>
        refine ite_bF (gt_sign (show z < 97 by omega)) ⟨_, rfl, iteF ?_⟩
        rw [no (by omega)] at q
        exact q _ sm
      refine ite_bT (le_sign d1) ?_
      refine ⟨_, _, rfl, rfl, _, rfl, ?_⟩
      by_cases d2 : z ≤ 122
      · refine ite_bT (le_sign d2) ⟨sm, by show i + 1 ≤ x.cps.size; omega, fun c3 hc3 => ?_⟩
        rw [take_one hz2] at hc3
        rcases List.mem_append.mp hc3 with h | h
        · exact al c3 h
        · rw [List.mem_singleton.mp h]
          exact ⟨d1, d2⟩
      · refine ite_bF (gt_sign (show 122 < z by omega)) ?_
        rw [no (by omega)] at q
        exact q _ sm

end
end KR
namespace KR
open PySem PySem.Spec PyProof.Rows L2
section
variable {P : Program} {w : World} {K : PySem.W.Frag} {mg : Str → Option Value} {base : Heap}
def sp_p_are_unlike (K : PySem.W.Frag) : Sp := fun vs H Q _ => ∃ (l : Addr) (xs : List Str), vs = [.ref l] ∧ SqL K H l (xs.map V.str) ∧ xs.length < 4000 ∧ Q (.bl (decide xs.Nodup)) H
theorem ok_p_are_unlike (T : All K mg) : FnOk P w K mg base CX0 1 T.f_p_are_unlike T.fd_p_are_unlike ["names"] (sp_p_are_unlike K) := by
  refine T.d_p_are_unlike.fn.ok sc_p_are_unlike (fun vs H Q E h => ?_) (fun cdv A outer s H vs Q E hr h => ?_)
  · obtain ⟨l, xs, rfl, _⟩ := h
    rfl
  · obtain ⟨l, xs, rfl, hl, few, q⟩ := h
    refine ⟨_, (pss_one (ps_ret (pe_cmpR op_eq (pe_lenSetS (K := K) rfl (by rfl) T.b_len (by rfl) T.b_set (pv 0)) (pe_callB (lenQ (K := K) rfl) (by rfl) T.b_len PySem.boot_len (pa_cons (pv 0) pa_nil)) (nomark _)))), ?_⟩
    refine ⟨_, rfl, l, xs, rfl, hl, few, _, rfl, l, _, rfl, .inl hl, ?_⟩
    refine ⟨rfl, ?_⟩
    have e : decide (V.int (((dist xs).length : Nat) : Int) = V.int ((xs.map V.str).length : Nat)) = decide xs.Nodup := by
      rw [List.length_map]
      by_cases c : xs.Nodup
      · rw [decide_eq_true c, dist_len.mpr c, decide_eq_true rfl]
      · rw [decide_eq_false c, decide_eq_false fun z => c (dist_len.mp (by have := V.int.inj z; omega))]
    rw [e]
    exact q

end
end KR
namespace KR
open PySem PySem.Spec PyProof.Rows L2
section
variable {P : Program} {w : World} {K : PySem.W.Frag} {mg : Str → Option Value} {base : Heap}
def sp_p__are_name_and_room (K : PySem.W.Frag) (P : Addr) : Sp := fun vs H Q _ => ∃ (v w : V) (p r : Pt), vs = [v, w] ∧ PtAt K H v p ∧ PtAt K H w r ∧ GxR.TabG H P ∧ ∀ H', Sm H H' → Q (.bl (nameB p && numB 1 1000000 r)) H'
theorem ok_p__are_name_and_room (T : All K mg) (B : Tabs T base) : FnOk P w K mg base CX0 3 T.f_p__are_name_and_room T.fd_p__are_name_and_room ["name", "room"] (sp_p__are_name_and_room K T.P_p_is_name) := by
  refine T.d_p__are_name_and_room.fn.ok sc_p__are_name_and_room (fun vs H Q E h => ?_) (fun cdv A outer s H vs Q E hr h => ?_)
  · obtain ⟨v, w, p, r, rfl, _⟩ := h
    rfl
  · obtain ⟨v, w, p, r, rfl, hp, hw, hT, q⟩ := h
    refine ⟨_, (pss_one (ps_ret (pe_and (pe_call (ok_p_is_name T B) (hr.mono (by decide)) (by rfl) T.d_p_is_name.mg T.d_p_is_name.fn.kp T.d_p_is_name.b .nil pass0 (pa_cons (pv 0) pa_nil)) (pe_one (pe_call (ok_p_is_number_within T) hr (by rfl) T.d_p_is_number_within.mg T.d_p_is_number_within.fn.kp T.d_p_is_number_within.b .nil pass0 (pa_cons (pv 1) (pa_cons pe_int (pa_cons (pe_glob (v := .int 1000000) rfl T.c_MOST_ROOM ⟨_, rfl⟩) pa_nil)))))))), ?_⟩
    refine ⟨_, rfl, v, p, rfl, hp, hT, fun H1 s1 => ⟨_, rfl, ?_⟩⟩
    cases c : nameB p with
    | false =>
      rw [c] at q
      exact iteF (q H1 s1)
    | true =>
      rw [c] at q
      exact iteT ⟨_, rfl, w, r, 1, _, rfl, hw.tk (.sm s1), q H1 s1⟩

end
end KR
namespace KR
open PySem PySem.Spec PyProof.Rows L2
section
variable {P : Program} {w : World} {K : PySem.W.Frag} {mg : Str → Option Value} {base : Heap}
def sp_p__is_mark (K : PySem.W.Frag) : Sp := fun vs H Q _ => ∃ (v : V) (p : Pt), vs = [v] ∧ PtAt K H v p ∧ Q (.bl (markB p)) H
theorem ok_p__is_mark (T : All K mg) : FnOk P w K mg base CX0 3 T.f_p__is_mark T.fd_p__is_mark ["thing"] (sp_p__is_mark K) := by
  refine T.d_p__is_mark.fn.ok sc_p__is_mark (fun vs H Q E h => ?_) (fun cdv A outer s H vs Q E hr h => ?_)
  · obtain ⟨v, p, rfl, _⟩ := h
    rfl
  · obtain ⟨v, p, rfl, hp, q⟩ := h
    refine ⟨_, (pss_one (ps_ret (pe_and (pe_call (ok_p_is_frac T) hr (by rfl) T.d_p_is_frac.mg T.d_p_is_frac.fn.kp T.d_p_is_frac.b .nil pass0 (pa_cons (pv 0) pa_nil)) (pe_one (pe_chain3 op_lt op_lt op_le pe_int (pe_ix (ixT (K := K) rfl) (pv 0) pe_int (fun _ _ => rfl)) (pe_ix (ixT (K := K) rfl) (pv 0) pe_int (fun _ _ => rfl)) (pe_glob (v := .int 60) rfl T.c_MOST_MARK_BOTTOM ⟨_, rfl⟩)))))), ?_⟩
    refine ⟨_, rfl, 0, _, _, _, rfl, hp.dj, _, rfl, ?_⟩
    cases p with
    | i n => exact iteF q
    | o => exact iteF q
    | s x => exact iteF q
    | f t b =>
    have q2 : Q (.bl (fracB t b && (decide (0 < t) && decide (t < b) && decide (b ≤ 60)))) H := q
    obtain ⟨⟨m, rfl, hm⟩, _⟩ := hp
    cases c : fracB t b with
    | false =>
      rw [c] at q2
      exact ite_bF c q2
    | true =>
    rw [c] at q2
    refine ite_bT c ?_
    refine ⟨_, rfl, m, _, 0, _, rfl, rfl, hm, at0, _, _, rfl, rfl, _, rfl, ?_⟩
    by_cases t0 : 0 < t
    case' neg =>
      refine ite_bF (decide_eq_false t0) ?_
      rw [decide_eq_false t0] at q2
      exact q2
    rw [decide_eq_true t0] at q2
    refine ite_bT (decide_eq_true t0) ?_
    refine ⟨_, rfl, m, _, 1, _, rfl, rfl, hm, at1, _, _, rfl, rfl, _, rfl, ?_⟩
    by_cases tb : t < b
    case' neg =>
      refine ite_bF (decide_eq_false tb) ?_
      rw [decide_eq_false tb] at q2
      exact q2
    rw [decide_eq_true tb] at q2
    refine ite_bT (decide_eq_true tb) ?_
    exact ⟨_, _, rfl, rfl, q2⟩

end
end KR
namespace KR
open PySem PySem.Spec PyProof.Rows L2
section
variable {P : Program} {w : World} {K : PySem.W.Frag} {mg : Str → Option Value} {base : Heap}
def sp_p__is_drip (K : PySem.W.Frag) : Sp := fun vs H Q _ => ∃ (v : V) (p : Pt), vs = [v] ∧ PtAt K H v p ∧ Q (.bl (dripB p)) H
theorem ok_p__is_drip (T : All K mg) : FnOk P w K mg base CX0 3 T.f_p__is_drip T.fd_p__is_drip ["thing"] (sp_p__is_drip K) := by
  refine T.d_p__is_drip.fn.ok sc_p__is_drip (fun vs H Q E h => ?_) (fun cdv A outer s H vs Q E hr h => ?_)
  · obtain ⟨v, p, rfl, _⟩ := h
    rfl
  · obtain ⟨v, p, rfl, hp, q⟩ := h
    refine ⟨_, (pss_one (ps_ret (pe_and (pe_call (ok_p_is_frac T) hr (by rfl) T.d_p_is_frac.mg T.d_p_is_frac.fn.kp T.d_p_is_frac.b .nil pass0 (pa_cons (pv 0) pa_nil)) (pe_one (pe_chain3 op_le op_lt op_le pe_int (pe_ix (ixT (K := K) rfl) (pv 0) pe_int (fun _ _ => rfl)) (pe_ix (ixT (K := K) rfl) (pv 0) pe_int (fun _ _ => rfl)) (pe_glob (v := .int 12) rfl T.c_MOST_DRIP_BOTTOM ⟨_, rfl⟩)))))), ?_⟩
    refine ⟨_, rfl, 0, _, _, _, rfl, hp.dj, _, rfl, ?_⟩
    cases p with
    | i n => exact iteF q
    | o => exact iteF q
    | s x => exact iteF q
    | f t b =>
    have q2 : Q (.bl (fracB t b && (decide (0 ≤ t) && decide (t < b) && decide (b ≤ 12)))) H := q
    obtain ⟨⟨m, rfl, hm⟩, _⟩ := hp
    cases c : fracB t b with
    | false =>
      rw [c] at q2
      exact ite_bF c q2
    | true =>
    rw [c] at q2
    refine ite_bT c ?_
    refine ⟨_, rfl, m, _, 0, _, rfl, rfl, hm, at0, _, _, rfl, rfl, _, rfl, ?_⟩
    by_cases t0 : 0 ≤ t
    case' neg =>
      refine ite_bF (decide_eq_false t0) ?_
      rw [decide_eq_false t0] at q2
      exact q2
    rw [decide_eq_true t0] at q2
    refine ite_bT (decide_eq_true t0) ?_
    refine ⟨_, rfl, m, _, 1, _, rfl, rfl, hm, at1, _, _, rfl, rfl, _, rfl, ?_⟩
    by_cases tb : t < b
    case' neg =>
      refine ite_bF (decide_eq_false tb) ?_
      rw [decide_eq_false tb] at q2
      exact q2
    rw [decide_eq_true tb] at q2
    refine ite_bT (decide_eq_true tb) ?_
    exact ⟨_, _, rfl, rfl, q2⟩

end
end KR
namespace KR
open PySem PySem.Spec PyProof.Rows L2
section
variable {P : Program} {w : World} {K : PySem.W.Frag} {mg : Str → Option Value} {base : Heap}
def sp_p_is_kettle (K : PySem.W.Frag) (P : Addr) : Sp := fun vs H Q _ => ∃ (v : V) (ps : List Pt), vs = [v] ∧ ThAt K H v ps ∧ GxR.TabG H P ∧ ∀ H', Sm H H' → Q (.bl (kettleB ps)) H'
theorem kettleB_len {ps : List Pt} (h : ps.length ≠ 4) : kettleB ps = false := by
  match ps, h with
  | [], _ => rfl
  | [_], _ => rfl
  | [_, _], _ => rfl
  | [_, _, _], _ => rfl
  | [_, _, _, _], h => exact absurd rfl h
  | _ :: _ :: _ :: _ :: _ :: _, _ => rfl
theorem ok_p_is_kettle (T : All K mg) (B : Tabs T base) : FnOk P w K mg base CX0 4 T.f_p_is_kettle T.fd_p_is_kettle ["thing"] (sp_p_is_kettle K T.P_p_is_name) := by
  refine T.d_p_is_kettle.fn.ok sc_p_is_kettle (fun vs H Q E h => ?_) (fun cdv A outer s H vs Q E hr h => ?_)
  · obtain ⟨v, ps, rfl, _⟩ := h
    rfl
  · obtain ⟨v, ps, rfl, ⟨a, us, rfl, h1, hP, l9⟩, hT, q⟩ := h
    refine ⟨_, (pss_cons (ps_if (PW.pt (pw_or (pt_not (pt_val (pe_callB (isiK (K := K) rfl) (by rfl) T.b_isinstance (by decide +kernel) (pa_cons (pv 0) (pa_cons (pe_bltn (v := .ty "tuple") (by rfl) T.b_tuple (by decide +kernel) rfl) pa_nil))))) (pw_or1 (pt_cmpR op_ne (pe_callB (lenQ (K := K) rfl) (by rfl) T.b_len PySem.boot_len (pa_cons (pv 0) pa_nil)) pe_int (nomark _))))) (pss_one (ps_ret pe_bl)) pss_nil)
      (pss_cons (ps_asg (pv 0) (pg_tupK (K := K) rfl rfl (pgs_cons (pg_name (i := 1) sc_p_is_kettle.nd rfl (by first | exact Or.inl rfl | exact Or.inr rfl)) (pgs_cons (pg_name (i := 2) sc_p_is_kettle.nd rfl (by first | exact Or.inl rfl | exact Or.inr rfl)) (pgs_cons (pg_name (i := 3) sc_p_is_kettle.nd rfl (by first | exact Or.inl rfl | exact Or.inr rfl)) (pgs_cons (pg_name (i := 4) sc_p_is_kettle.nd rfl (by first | exact Or.inl rfl | exact Or.inr rfl)) pgs_nil))))))
      (pss_one (ps_ret (pe_and (pe_call (ok_p__are_name_and_room T B) hr (by rfl) T.d_p__are_name_and_room.mg T.d_p__are_name_and_room.fn.kp T.d_p__are_name_and_room.b .nil pass0 (pa_cons (pv 1) (pa_cons (pv 2) pa_nil))) (pe_and (pe_call (ok_p_is_number_within T) (hr.mono (by decide)) (by rfl) T.d_p_is_number_within.mg T.d_p_is_number_within.fn.kp T.d_p_is_number_within.b .nil pass0 (pa_cons (pv 3) (pa_cons pe_int (pa_cons (pe_glob (v := .int 10000) rfl T.c_MOST_FIRE ⟨_, rfl⟩) pa_nil)))) (pe_one (pe_call (ok_p__is_mark T) hr (by rfl) T.d_p__is_mark.mg T.d_p__is_mark.fn.kp T.d_p__is_mark.b .nil pass0 (pa_cons (pv 4) pa_nil))))))))), ?_⟩
    refine ⟨_, rfl, _, _, _, _, _, rfl, .ty _, sqT_ty h1, kit_ty (show kitB "tuple" "tuple" = some true by decide +kernel), _, rfl, ?_⟩
    refine iteF ?_
    refine ⟨_, rfl, a, _, rfl, .inr h1, rfl, _, rfl, ?_⟩
    have el := hP.len
    by_cases n4 : ps.length = 4
    case' neg =>
      rw [kettleB_len n4] at q
      exact ite_nT (by omega) (q H .refl)
    refine ite_nF (by omega) ?_
    obtain ⟨v1, v2, v3, v4, rfl⟩ := len4 (el.trans n4)
    obtain ⟨x, r, f, m, rfl⟩ := len4 n4
    have p1 := hP.at_ 0 v1 x rfl rfl
    have p2 := hP.at_ 1 v2 r rfl rfl
    have p3 := hP.at_ 2 v3 f rfl rfl
    have p4 := hP.at_ 3 v4 m rfl rfl
    have q2 : ∀ H', Sm H H' → Q (.bl (nameB x && numB 1 1000000 r && numB 0 10000 f && markB m)) H' := q
    refine ⟨_, rfl, a, _, rfl, h1, rfl, _, _, rfl, _, _, rfl, _, _, rfl, _, _, rfl, rfl, ?_⟩
    refine ⟨_, rfl, _, rfl, v1, v2, x, r, rfl, p1, p2, hT, fun H1 s1 => ⟨_, rfl, ?_⟩⟩
    cases c : nameB x && numB 1 1000000 r with
    | false =>
      rw [c] at q2
      exact iteF (q2 H1 s1)
    | true =>
    rw [c] at q2
    refine iteT ?_
    refine ⟨_, rfl, v3, f, 0, _, rfl, p3.tk (.sm s1), _, rfl, ?_⟩
    cases c2 : numB 0 10000 f with
    | false =>
      rw [c2] at q2
      exact iteF (q2 H1 s1)
    | true =>
    rw [c2] at q2
    refine iteT ?_
    exact ⟨_, rfl, v4, m, rfl, p4.tk (.sm s1), q2 H1 s1⟩

end
end KR
namespace KR
open PySem PySem.Spec PyProof.Rows L2
section
variable {P : Program} {w : World} {K : PySem.W.Frag} {mg : Str → Option Value} {base : Heap}
def sp_p_is_mould (K : PySem.W.Frag) (P : Addr) : Sp := fun vs H Q _ => ∃ (v : V) (ps : List Pt), vs = [v] ∧ ThAt K H v ps ∧ GxR.TabG H P ∧ ∀ H', Sm H H' → Q (.bl (mouldB ps)) H'
theorem mouldB_len {ps : List Pt} (h : ps.length ≠ 3) : mouldB ps = false := by
  match ps, h with
  | [], _ => rfl
  | [_], _ => rfl
  | [_, _], _ => rfl
  | [_, _, _], h => exact absurd rfl h
  | _ :: _ :: _ :: _ :: _, _ => rfl
theorem ok_p_is_mould (T : All K mg) (B : Tabs T base) : FnOk P w K mg base CX0 4 T.f_p_is_mould T.fd_p_is_mould ["thing"] (sp_p_is_mould K T.P_p_is_name) := by
  refine T.d_p_is_mould.fn.ok sc_p_is_mould (fun vs H Q E h => ?_) (fun cdv A outer s H vs Q E hr h => ?_)
  · obtain ⟨v, ps, rfl, _⟩ := h
    rfl
  · obtain ⟨v, ps, rfl, ⟨a, us, rfl, h1, hP, l9⟩, hT, q⟩ := h
    refine ⟨_, (pss_cons (ps_if (PW.pt (pw_or (pt_not (pt_val (pe_callB (isiK (K := K) rfl) (by rfl) T.b_isinstance (by decide +kernel) (pa_cons (pv 0) (pa_cons (pe_bltn (v := .ty "tuple") (by rfl) T.b_tuple (by decide +kernel) rfl) pa_nil))))) (pw_or1 (pt_cmpR op_ne (pe_callB (lenQ (K := K) rfl) (by rfl) T.b_len PySem.boot_len (pa_cons (pv 0) pa_nil)) pe_int (nomark _))))) (pss_one (ps_ret pe_bl)) pss_nil)
      (pss_cons (ps_asg (pv 0) (pg_tupK (K := K) rfl rfl (pgs_cons (pg_name (i := 1) sc_p_is_mould.nd rfl (by first | exact Or.inl rfl | exact Or.inr rfl)) (pgs_cons (pg_name (i := 2) sc_p_is_mould.nd rfl (by first | exact Or.inl rfl | exact Or.inr rfl)) (pgs_cons (pg_name (i := 3) sc_p_is_mould.nd rfl (by first | exact Or.inl rfl | exact Or.inr rfl)) pgs_nil)))))
      (pss_one (ps_ret (pe_and (pe_call (ok_p__are_name_and_room T B) hr (by rfl) T.d_p__are_name_and_room.mg T.d_p__are_name_and_room.fn.kp T.d_p__are_name_and_room.b .nil pass0 (pa_cons (pv 1) (pa_cons (pv 2) pa_nil))) (pe_one (pe_call (ok_p__is_drip T) hr (by rfl) T.d_p__is_drip.mg T.d_p__is_drip.fn.kp T.d_p__is_drip.b .nil pass0 (pa_cons (pv 3) pa_nil)))))))), ?_⟩
    refine ⟨_, rfl, _, _, _, _, _, rfl, .ty _, sqT_ty h1, kit_ty (show kitB "tuple" "tuple" = some true by decide +kernel), _, rfl, ?_⟩
    refine iteF ?_
    refine ⟨_, rfl, a, _, rfl, .inr h1, rfl, _, rfl, ?_⟩
    have el := hP.len
    by_cases n3 : ps.length = 3
    case' neg =>
      rw [mouldB_len n3] at q
      exact ite_nT (by omega) (q H .refl)
    refine ite_nF (by omega) ?_
    obtain ⟨v1, v2, v4, rfl⟩ := len3 (el.trans n3)
    obtain ⟨x, r, m, rfl⟩ := len3 n3
    have p1 := hP.at_ 0 v1 x rfl rfl
    have p2 := hP.at_ 1 v2 r rfl rfl
    have p4 := hP.at_ 2 v4 m rfl rfl
    have q2 : ∀ H', Sm H H' → Q (.bl (nameB x && numB 1 1000000 r && dripB m)) H' := q
    refine ⟨_, rfl, a, _, rfl, h1, rfl, _, _, rfl, _, _, rfl, _, _, rfl, rfl, ?_⟩
    refine ⟨_, rfl, _, rfl, v1, v2, x, r, rfl, p1, p2, hT, fun H1 s1 => ⟨_, rfl, ?_⟩⟩
    cases c : nameB x && numB 1 1000000 r with
    | false =>
      rw [c] at q2
      exact iteF (q2 H1 s1)
    | true =>
    rw [c] at q2
    refine iteT ?_
    exact ⟨_, rfl, v4, m, rfl, p4.tk (.sm s1), q2 H1 s1⟩

end
end KR
namespace KR
open PySem PySem.Spec PyProof.Rows L2
section
variable {P : Program} {w : World} {K : PySem.W.Frag} {mg : Str → Option Value} {base : Heap}
def sp_p__can_be_kettles (K : PySem.W.Frag) (Ps : List Addr) : Sp := fun vs H Q _ => ∃ (a : Addr) (xs : List V) (pss : List (List Pt)), vs = [.ref a] ∧ SqT K H a xs ∧ ThsAt K H xs pss ∧ pss.length ≤ 1000 ∧ Tbs Ps H ∧ ∀ H', Sm H H' → Q (.bl (canK pss)) H'
theorem ok_p__can_be_kettles (T : All K mg) (B : Tabs T base) : FnOk P w K mg base CX0 6 T.f_p__can_be_kettles T.fd_p__can_be_kettles ["things"] (sp_p__can_be_kettles K T.Ps) := by
  refine T.k_p__can_be_kettles.ok sc_p__can_be_kettles (fun vs H Q E h => ?_) (fun cdv A outer s H vs Q E hc hr h => ?_)
  · obtain ⟨a, xs, pss, rfl, _⟩ := h
    rfl
  · obtain ⟨a, xs, pss, rfl, ha, hA, l9, hT, q⟩ := h
    have t1 : GxR.TabG H T.P_p__can_be_kettles := hT _ (by simp [All.Ps])
    have t2 : GxR.TabG H T.P_p_is_name := hT _ (by simp [All.Ps])
    have ln := hA.len
    refine ⟨_, (pss_cons (ps_if (PW.pt (pw_or (pt_not (pt_chain op_le op_le pe_int (pe_callB (lenQ (K := K) rfl) (by rfl) T.b_len PySem.boot_len (pa_cons (pv 0) pa_nil)) (pe_glob (v := .int 8) rfl T.c_MOST_KETTLES ⟨_, rfl⟩))) (pw_or1 (pt_not (pt_val (pe_allG hr (by rfl) T.b_all (by decide +kernel) B.t_p__can_be_kettles hc ⟨rfl, rfl, by decide +kernel, by decide +kernel, rfl, rfl⟩ (pi_tupK (K := K) rfl (pv 0)) (fun _ _ _ _ _ _ => (pe_call (ok_p_is_kettle T B) (room_gen hr) (by rfl) T.d_p_is_kettle.mg T.d_p_is_kettle.fn.kp T.d_p_is_kettle.b .nil pass0 (pa_cons (pv 0) pa_nil))) (by intro _; rfl))))))) (pss_one (ps_ret pe_bl)) pss_nil)
      (pss_one (ps_ret (pe_call (ok_p_are_unlike T) (hr.mono (by decide)) (by rfl) T.d_p_are_unlike.mg T.d_p_are_unlike.fn.kp T.d_p_are_unlike.b .nil pass0 (pa_cons (pe_lc (own := [("thing", 1)]) (g := gName 1) (tt := tYes) (by rfl) sc_p__can_be_kettles.nd (pi_tupK (K := K) rfl (pv 0)) (blkOk_by (own := [("thing", 1)]) (N := ["things", "thing"]) (sc := defScope s_p__can_be_kettles) (by decide +kernel)) (fun _ _ _ _ _ => (pg_name (i := 1) sc_p__can_be_kettles.nd rfl (by first | exact Or.inl rfl | exact Or.inr rfl))) (fun _ _ _ _ _ => pts_nil) (fun _ _ _ _ _ => (pe_ix (ixT (K := K) rfl) (pv 1) pe_int (fun _ _ => rfl)))) pa_nil))))), ?_⟩
    refine ⟨_, rfl, a, xs, rfl, .inr ha, _, _, rfl, rfl, _, rfl, ?_⟩
    unfold canK at q
    by_cases c1 : 1 ≤ pss.length
    case' neg =>
      rw [decide_eq_false c1] at q
      exact ite_bF (decide_eq_false (by omega)) ⟨_, rfl, iteT (q H .refl)⟩
    rw [decide_eq_true c1] at q
    refine ite_bT (decide_eq_true (by omega)) ?_
    refine ⟨_, _, rfl, rfl, _, rfl, ?_⟩
    by_cases c8 : pss.length ≤ 8
    case' neg =>
      rw [decide_eq_false c8] at q
      rw [decide_eq_false (show ¬ ((xs.length : Nat) : Int) ≤ 8 by omega)]
      exact iteT (q H .refl)
    rw [decide_eq_true c8] at q
    rw [decide_eq_true (show ((xs.length : Nat) : Int) ≤ 8 by omega)]
    refine iteF ?_
    refine ⟨_, rfl, a, rfl, ⟨xs, ha⟩, t1, xs.length, fun i H' => Sm H H' ∧ i ≤ xs.length ∧ (pss.take i).all kettleB = true, fun H2 tb => ⟨Sm.tabbed tb t1, Nat.zero_le _, rfl⟩, fun i H2 ⟨sm, le, al⟩ => ?_⟩
    by_cases c : i = xs.length
    · rw [List.take_of_length_le (by omega)] at al
      refine .inl ⟨⟨xs, sm.tup ha, by omega⟩, _, rfl, iteF ?_⟩
      rw [al] at q
      refine ⟨_, rfl, a, rfl, ⟨xs, sm.tup ha⟩, fun D hD => ?_⟩
      refine lc_tup (K := K) (a := a) (xs := xs) (fun j H3 => Same H2 H3 ∧ H3 D = some (.lst (((pss.take j).map nmO).map V.str))) ⟨same_new hD, upd_same⟩ (fun j H3 _ z => Same.tup z.1 (sm.tup ha)) (fun j y H3 hy z => ?_) (fun H3 z => ?_)
      · obtain ⟨s3, l3⟩ := z
        have jl := (List.getElem?_eq_some_iff.mp hy).1
        obtain ⟨ps, hp, th⟩ := hA.get hy
        obtain ⟨x, d, _, en, b, zs, rfl, h1⟩ := th.ket (List.all_eq_true.mp al ps (List.mem_of_getElem? hp))
        refine ⟨rfl, yesT ?_⟩
        refine ⟨_, rfl, b, _, 0, _, rfl, rfl, Same.tup s3 (sm.tup h1), at0, ?_⟩
        refine ⟨_, l3, by rw [List.length_map, List.length_map]; exact small' (by rw [List.length_take]; omega), Same.put s3 hD, ?_⟩
        rw [upd_same, take_one hp, List.map_append, List.map_append, ← en] <;> rfl
      · obtain ⟨s3, l3⟩ := z
        rw [ln, List.take_length] at l3
        exact ⟨D, pss.map nmO, rfl, SqL.of l3, by rw [List.length_map]; omega, q H3 (sm.trans (.of s3))⟩
    · obtain ⟨x, hx⟩ : ∃ x, xs[i]? = some x := ⟨_, List.getElem?_eq_getElem (by omega)⟩
      refine .inr ⟨⟨xs, x, sm.tup ha, hx⟩, by omega, fun y H3 ⟨e3, hy⟩ => ?_⟩
      subst e3
      obtain rfl := Option.some.inj ((hy xs (sm.tup ha)).symm.trans hx)
      obtain ⟨ps, hp, th⟩ := hA.get hx
      refine ⟨_, rfl, y, ps, rfl, th.tk (.sm sm), sm.tab _ t2, fun H4 s4 => ?_⟩
      cases ck : kettleB ps with
      | true => exact ⟨true, rfl, sm.trans s4, by omega, all_take al hp ck⟩
      | false =>
        rw [all_not hp ck] at q
        exact ⟨false, rfl, _, rfl, iteT (q H4 (sm.trans s4))⟩

end
end KR
namespace KR
open PySem PySem.Spec PyProof.Rows L2
section
variable {P : Program} {w : World} {K : PySem.W.Frag} {mg : Str → Option Value} {base : Heap}
def sp_p__can_be_moulds (K : PySem.W.Frag) (Ps : List Addr) : Sp := fun vs H Q _ => ∃ (a k : Addr) (xs ys : List V) (pss kss : List (List Pt)), vs = [.ref a, .ref k] ∧ SqT K H a xs ∧ ThsAt K H xs pss ∧ SqT K H k ys ∧ ThsAt K H ys kss ∧ canK kss = true ∧ pss.length ≤ 1000 ∧ Tbs Ps H ∧ ∀ H', Sm H H' → Q (.bl (canM pss kss)) H'
theorem canK_of {kss : List (List Pt)} (h : canK kss = true) : 1 ≤ kss.length ∧ kss.length ≤ 8 ∧ (∀ ps ∈ kss, kettleB ps = true) ∧ (kss.map nmO).Nodup := by
  have h1 := Bool.and_eq_true_iff.mp h
  have h2 := Bool.and_eq_true_iff.mp h1.1
  have h3 := Bool.and_eq_true_iff.mp h2.1
  exact ⟨of_decide_eq_true h3.1, of_decide_eq_true h3.2, List.all_eq_true.mp h2.2, of_decide_eq_true h1.2⟩
theorem canM_of {pss kss : List (List Pt)} (h : canM pss kss = true) : pss.length ≤ 40 ∧ (∀ ps ∈ pss, mouldB ps = true) ∧ (kss.map nmO ++ pss.map nmO).Nodup := by
  have h1 := Bool.and_eq_true_iff.mp h
  have h2 := Bool.and_eq_true_iff.mp h1.1
  exact ⟨of_decide_eq_true h2.1, List.all_eq_true.mp h2.2, of_decide_eq_true h1.2⟩
theorem ok_p__can_be_moulds (T : All K mg) (B : Tabs T base) : FnOk P w K mg base CX0 6 T.f_p__can_be_moulds T.fd_p__can_be_moulds ["things", "kettles"] (sp_p__can_be_moulds K T.Ps) := by
  refine T.k_p__can_be_moulds.ok sc_p__can_be_moulds (fun vs H Q E h => ?_) (fun cdv A outer s H vs Q E hc hr h => ?_)
  · obtain ⟨a, k, xs, ys, pss, kss, rfl, _⟩ := h
    rfl
  · obtain ⟨a, k, xs, ys, pss, kss, rfl, ha, hA, hk, hB, cK, l9, hT, q⟩ := h
    have t1 : GxR.TabG H T.P_p__can_be_moulds := hT _ (by simp [All.Ps])
    have t2 : GxR.TabG H T.P_p_is_name := hT _ (by simp [All.Ps])
    have ln := hA.len
    have lk := hB.len
    obtain ⟨k1, k8, kB, _⟩ := canK_of cK
    refine ⟨_, (pss_cons (ps_if (PW.pt (pw_or (pt_cmpR op_gt (pe_callB (lenQ (K := K) rfl) (by rfl) T.b_len PySem.boot_len (pa_cons (pv 0) pa_nil)) (pe_glob (v := .int 40) rfl T.c_MOST_MOULDS ⟨_, rfl⟩) (nomark _)) (pw_or1 (pt_not (pt_val (pe_allG hr (by rfl) T.b_all (by decide +kernel) B.t_p__can_be_moulds hc ⟨rfl, rfl, by decide +kernel, by decide +kernel, rfl, rfl⟩ (pi_tupK (K := K) rfl (pv 0)) (fun _ _ _ _ _ _ => (pe_call (ok_p_is_mould T B) (room_gen hr) (by rfl) T.d_p_is_mould.mg T.d_p_is_mould.fn.kp T.d_p_is_mould.b .nil pass0 (pa_cons (pv 0) pa_nil))) (by intro _; rfl))))))) (pss_one (ps_ret pe_bl)) pss_nil)
      (pss_one (ps_ret (pe_call (ok_p_are_unlike T) (hr.mono (by decide)) (by rfl) T.d_p_are_unlike.mg T.d_p_are_unlike.fn.kp T.d_p_are_unlike.b .nil pass0 (pa_cons (pe_lc (own := [("one", 3)]) (g := gName 3) (tt := tYes) (by rfl) sc_p__can_be_moulds.nd (pi_tupK (K := K) rfl (pe_op (op_catTI (K := K) rfl) (pv 1) (pv 0))) (blkOk_by (own := [("one", 3)]) (N := ["things", "kettles", "thing", "one"]) (sc := defScope s_p__can_be_moulds) (by decide +kernel)) (fun _ _ _ _ _ => (pg_name (i := 3) sc_p__can_be_moulds.nd rfl (by first | exact Or.inl rfl | exact Or.inr rfl))) (fun _ _ _ _ _ => pts_nil) (fun _ _ _ _ _ => (pe_ix (ixT (K := K) rfl) (pv 3) pe_int (fun _ _ => rfl)))) pa_nil))))), ?_⟩
    refine ⟨_, rfl, a, xs, rfl, .inr ha, _, _, rfl, rfl, _, rfl, ?_⟩
    unfold canM at q
    by_cases c8 : pss.length ≤ 40
    case' neg =>
      rw [decide_eq_false c8] at q
      exact ite_bT (decide_eq_true (by omega)) (q H .refl)
    rw [decide_eq_true c8] at q
    refine ite_bF (decide_eq_false (by omega)) ?_
    refine ⟨_, rfl, a, rfl, ⟨xs, ha⟩, t1, xs.length, fun i H' => Sm H H' ∧ i ≤ xs.length ∧ (pss.take i).all mouldB = true, fun H2 tb => ⟨Sm.tabbed tb t1, Nat.zero_le _, rfl⟩, fun i H2 ⟨sm, le, al⟩ => ?_⟩
    by_cases c : i = xs.length
    · rw [List.take_of_length_le (by omega)] at al
      refine .inl ⟨⟨xs, sm.tup ha, by omega⟩, _, rfl, iteF ?_⟩
      rw [al] at q
      have nm : ∀ (j : Nat) (y : V), (ys ++ xs)[j]? = some y → ∃ (ps : List Pt) (b : Addr) (zs : List V), (kss ++ pss)[j]? = some ps ∧ y = .ref b ∧ SqT K H b (.str (nmO ps) :: zs) := fun j y hy => by
        obtain ⟨ps, hp, th⟩ := (hB.cat hA).get hy
        by_cases lt : j < kss.length
        · have hp2 := hp
          rw [List.getElem?_append_left lt] at hp2
          obtain ⟨x, d, _, en, b, zs, e, h1⟩ := th.ket (kB ps (List.mem_of_getElem? hp2))
          exact ⟨ps, b, zs, hp, e, by rw [en]; exact h1⟩
        · have hp2 := hp
          rw [List.getElem?_append_right (by omega)] at hp2
          obtain ⟨x, d, _, en, b, zs, e, h1⟩ := th.mou (List.all_eq_true.mp al ps (List.mem_of_getElem? hp2))
          exact ⟨ps, b, zs, hp, e, by rw [en]; exact h1⟩
      refine ⟨_, rfl, _, rfl, k, a, ys, xs, rfl, rfl, sm.tup hk, sm.tup ha, (by intro z; rw [z] at lk; simp at lk; omega), small (by omega), fun c2 Hc sc hc2 => ?_⟩
      refine ⟨c2, rfl, ⟨_, hc2⟩, fun D hD => ?_⟩
      refine lc_tup (K := K) (a := c2) (xs := ys ++ xs) (fun j H3 => Same Hc H3 ∧ H3 D = some (.lst ((((kss ++ pss).take j).map nmO).map V.str))) ⟨same_new hD, upd_same⟩ (fun j H3 _ z => Same.tup z.1 hc2) (fun j y H3 hy z => ?_) (fun H3 z => ?_)
      · obtain ⟨s3, l3⟩ := z
        have jl := (List.getElem?_eq_some_iff.mp hy).1
        rw [List.length_append] at jl
        obtain ⟨ps, b, zs, hx, rfl, h1⟩ := nm j y hy
        refine ⟨rfl, yesT ?_⟩
        refine ⟨_, rfl, b, _, 0, _, rfl, rfl, Same.tup (sc.trans s3) (sm.tup h1), atI_nat (j := 0) rfl, ?_⟩
        refine ⟨_, l3, by rw [List.length_map, List.length_map]; exact small' (by rw [List.length_take]; omega), Same.put s3 hD, ?_⟩
        rw [upd_same, take_one hx, List.map_append, List.map_append] <;> rfl
      · obtain ⟨s3, l3⟩ := z
        have ln2 : (ys ++ xs).length = (kss ++ pss).length := by rw [List.length_append, List.length_append, ln, lk]
        rw [ln2, List.take_length, List.map_append] at l3
        exact ⟨D, kss.map nmO ++ pss.map nmO, rfl, SqL.of l3, by rw [List.length_append, List.length_map, List.length_map]; omega, q H3 (sm.trans ((Sm.of sc).trans (.of s3)))⟩
    · obtain ⟨x, hx⟩ : ∃ x, xs[i]? = some x := ⟨_, List.getElem?_eq_getElem (by omega)⟩
      refine .inr ⟨⟨xs, x, sm.tup ha, hx⟩, by omega, fun y H3 ⟨e3, hy⟩ => ?_⟩
      subst e3
      obtain rfl := Option.some.inj ((hy xs (sm.tup ha)).symm.trans hx)
      obtain ⟨ps, hp, th⟩ := hA.get hx
      refine ⟨_, rfl, y, ps, rfl, th.tk (.sm sm), sm.tab _ t2, fun H4 s4 => ?_⟩
      cases ck : mouldB ps with
      | true => exact ⟨true, rfl, sm.trans s4, by omega, all_take al hp ck⟩
      | false =>
        rw [all_not hp ck] at q
        exact ⟨false, rfl, _, rfl, iteT (q H4 (sm.trans s4))⟩

end
end KR
namespace KR
open PySem PySem.Spec PyProof.Rows L2
section
variable {P : Program} {w : World} {K : PySem.W.Frag} {mg : Str → Option Value} {base : Heap}
/-- the attributes of a row, as they are stored -/
def rf (k m : Addr) : List (Str × V) := putF "moulds" (.ref m) (putF "kettles" (.ref k) [])
/-- a list or a tuple -/
def LT (K : PySem.W.Frag) (H : Hp) (a : Addr) (xs : List V) : Prop := SqL K H a xs ∨ SqT K H a xs
def sp_Row_init (K : PySem.W.Frag) (C CK CM : Addr) (Ps : List Addr) : Sp := fun vs H Q E => ∃ (x dx k m : Addr) (xs ys : List V) (pss kss : List (List Pt)), vs = [.ref x, .ref k, .ref m] ∧ H x = some (.ins C dx []) ∧ LT K H k ys ∧ ThsAt K H ys kss ∧ LT K H m xs ∧ ThsAt K H xs pss ∧ kss.length ≤ 1000 ∧ pss.length ≤ 1000 ∧ Tbs Ps H ∧
  (canK kss = false → ∀ d k2 H', Sm H H' → H' d = some (.xd (wh "BadKettles" (.ref k2))) → SqT K H' k2 ys → E (.ref CK) (some d) H') ∧
  (canK kss = true → canM pss kss = false → ∀ d m2 H', Sm H H' → H' d = some (.xd (wh "BadMoulds" (.ref m2))) → SqT K H' m2 xs → E (.ref CM) (some d) H') ∧
  (canK kss = true → canM pss kss = true → ∀ k2 m2 H', H' x = some (.ins C dx (rf k2 m2)) → SqT K H' k2 ys → SqT K H' m2 xs → Fs x H H' → Q .non H')
theorem tuple_of {K : PySem.W.Frag} {H : Hp} {a : Addr} {xs : List V} {Q : VK} (h : LT K H a xs) (k : ∀ l H', Same H H' → SqT K H' l xs → Q (.ref l) H') : rTupI K [.ref a] H Q := by
  rcases h with h | h
  · exact ⟨a, xs, rfl, .inl ⟨h, fun l H' s _ e => k l H' s (SqT.of e)⟩⟩
  · exact ⟨a, xs, rfl, .inr ⟨h, k a H (Same.refl _) h⟩⟩
theorem ok_Row_init (T : All K mg) (B : Tabs T base) : FnOk P w K mg base (L2.CX P w) 7 T.f_Row_init T.fd_Row_init ["self", "kettles", "moulds"] (sp_Row_init K T.C_Row T.C_BadKettles T.C_BadMoulds T.Ps) := by
  refine T.F_Row_init.okX sc_Row_init (fun vs H Q E h => ?_) (fun cdv A outer s H vs Q E hr h => ?_)
  · obtain ⟨x, dx, k, m, xs, ys, pss, kss, rfl, _⟩ := h
    rfl
  · obtain ⟨x, dx, k, m, xs, ys, pss, kss, rfl, hx, hk, hB, hm, hA, lk9, lm9, hT, w1, w2, w3⟩ := h
    refine ⟨_, (pss_cons (ps_set (i := 1) sc_Row_init.nd rfl (by first | exact Or.inl rfl | exact Or.inr rfl) (pe_callTy (tupI (K := K) rfl) (by rfl) T.b_tuple (by decide +kernel) (pa_cons (pv 1) pa_nil)))
      (pss_cons (ps_set (i := 2) sc_Row_init.nd rfl (by first | exact Or.inl rfl | exact Or.inr rfl) (pe_callTy (tupI (K := K) rfl) (by rfl) T.b_tuple (by decide +kernel) (pa_cons (pv 2) pa_nil)))
      (pss_cons (ps_if (pt_not (pt_val (pe_call (ok_p__can_be_kettles T B) hr (by rfl) T.d_p__can_be_kettles.mg T.d_p__can_be_kettles.fn.kp T.d_p__can_be_kettles.b .nil pass0 (pa_cons (pv 1) pa_nil)))) (pss_one (ps_raise rfl (takes_of rfl rfl rfl rfl) (pmk_oex T.O_BadKettles T.i_BadKettles T.tI_BadKettles (ok_init_BadKettles T) (hr.mono (by decide)) T.bI_BadKettles .nil pass0 rfl T.g_BadKettles (by exact (pa_cons (pv 1) pa_nil))))) pss_nil)
      (pss_cons (ps_if (pt_not (pt_val (pe_call (ok_p__can_be_moulds T B) hr (by rfl) T.d_p__can_be_moulds.mg T.d_p__can_be_moulds.fn.kp T.d_p__can_be_moulds.b .nil pass0 (pa_cons (pv 2) (pa_cons (pv 1) pa_nil))))) (pss_one (ps_raise rfl (takes_of rfl rfl rfl rfl) (pmk_oex T.O_BadMoulds T.i_BadMoulds T.tI_BadMoulds (ok_init_BadMoulds T) (hr.mono (by decide)) T.bI_BadMoulds .nil pass0 rfl T.g_BadMoulds (by exact (pa_cons (pv 2) pa_nil))))) pss_nil)
      (pss_cons (ps_fld (pv 0) (pv 1) rfl)
      (pss_one (ps_fld (pv 0) (pv 2) rfl))))))), ?_⟩
    refine ⟨_, rfl, ?_⟩
    dsimp only [tNil]
    refine tuple_of hk fun k2 H1 s1 hk2 => ?_
    have hm1 : LT K H1 m xs := hm.imp (fun z => s1.seq z) (fun z => Same.tup s1 z)
    refine ⟨_, rfl, ?_⟩
    dsimp only [tNil]
    refine tuple_of hm1 fun m2 H2 s2 hm2 => ?_
    have hk2' := Same.tup s2 hk2
    have sm2 : Sm H H2 := .of (s1.trans s2)
    refine ⟨_, rfl, k2, ys, kss, rfl, hk2', hB.tk (.sm sm2), lk9, hT.sm sm2, fun H3 s3 => ⟨_, rfl, ?_⟩⟩
    have sm3 := sm2.trans s3
    cases cK : canK kss with
    | false =>
      refine iteT ?_
      refine ⟨_, rfl, by show 1 ≤ 1000; decide, fun a ha => ⟨a, .ref k2, rfl, upd_same, fun d hd hne => ?_⟩⟩
      rw [upd_ne hne] at hd
      refine ⟨rfl, d, (wh "BadKettles" (.ref k2)), upd_same, by rw [upd_ne hne, upd_same], hd, ?_⟩
      have kp := raised_keeps (o1 := exo a T.C_BadKettles none) (o2 := exd d (wh "BadKettles" (.ref k2))) (o3 := exo a T.C_BadKettles (some d)) (o4 := .xd (wh "BadKettles" (.ref k2))) ha hd
      exact w1 cK d k2 _ (sm3.trans (.of kp)) upd_same (Same.tup kp (s3.tup hk2'))
    | true =>
    refine iteF ?_
    have hm3 := s3.tup hm2
    refine ⟨_, rfl, _, rfl, m2, k2, xs, ys, pss, kss, rfl, hm3, hA.tk (.sm sm3), s3.tup hk2', hB.tk (.sm sm3), cK, lm9, hT.sm sm3, fun H4 s4 => ⟨_, rfl, ?_⟩⟩
    have sm4 := sm3.trans s4
    cases cM : canM pss kss with
    | false =>
      refine iteT ?_
      refine ⟨_, rfl, by show 1 ≤ 1000; decide, fun a ha => ⟨a, .ref m2, rfl, upd_same, fun d hd hne => ?_⟩⟩
      rw [upd_ne hne] at hd
      refine ⟨rfl, d, (wh "BadMoulds" (.ref m2)), upd_same, by rw [upd_ne hne, upd_same], hd, ?_⟩
      have kp := raised_keeps (o1 := exo a T.C_BadMoulds none) (o2 := exd d (wh "BadMoulds" (.ref m2))) (o3 := exo a T.C_BadMoulds (some d)) (o4 := .xd (wh "BadMoulds" (.ref m2))) ha hd
      exact w2 cK cM d m2 _ (sm4.trans (.of kp)) upd_same (Same.tup kp (s4.tup hm3))
    | true =>
    refine iteF ?_
    have hx4 : H4 x = some (.ins T.C_Row dx []) := sm4.keep _ _ hx nofun
    refine ⟨_, rfl, _, rfl, x, T.C_Row, dx, [], rfl, hx4, T.L_Row, T.n_Row_kettles, (by show 0 < 1000; decide), ?_⟩
    refine ⟨_, rfl, _, rfl, x, T.C_Row, dx, _, rfl, upd_same, T.L_Row, T.n_Row_moulds, (by show 1 < 1000; decide), ?_⟩
    have fs : Fs x H4 (upd (upd H4 x (.ins T.C_Row dx (putF "kettles" (.ref k2) []))) x (.ins T.C_Row dx (rf k2 m2))) := ⟨fun b o n e _ => by rw [upd_ne n, upd_ne n]; exact e, fun b n ⟨g, e, t⟩ => ⟨g, by rw [upd_ne n, upd_ne n]; exact e, t⟩⟩
    have tk : TK K H4 (upd (upd H4 x (.ins T.C_Row dx (putF "kettles" (.ref k2) []))) x (.ins T.C_Row dx (rf k2 m2))) := .fs (fun xs z => by rw [hx4] at z; cases z) (fun b y z => by rw [hx4] at z; cases z) fs
    exact w3 cK cM k2 m2 _ upd_same (tk _ _ (s4.tup (s3.tup hk2'))) (tk _ _ (s4.tup hm3)) ((Fs.sm sm4).trans fs)
/-- an instance that is made -/
theorem make_same {J : Hp} {x dx C : Addr} (nx : J x = none) (ndx : J dx = none) : Same J (upd (upd J dx (.own x)) x (.ins C dx [])) := Same.put (same_new ndx) nx
theorem make_sm {J H : Hp} {x dx C : Addr} (nx : J x = none) (ndx : J dx = none) (f : Fs x (upd (upd J dx (.own x)) x (.ins C dx [])) H) : Sm J H :=
  ⟨fun c o e t => f.keep c o (ne_of_none e nx) (make_same nx ndx c o e) t, fun c h => f.tab c (fun z => by obtain ⟨q, e, _⟩ := h; rw [z, nx] at e; cases e) ((Sm.of (make_same nx ndx)).tab c h)⟩

end
end KR
namespace KR
open PySem PySem.Spec PyProof.Rows L2
section
variable {P : Program} {w : World} {K : PySem.W.Frag} {mg : Str → Option Value} {base : Heap}
def sp_p_figures_of : Sp := fun vs H Q _ => ∃ n : Nat, vs = [.int (n : Int)] ∧ n < 10 ^ 64 ∧ ∀ H', Same H H' → Q (.str (S (TL.numL n))) H'
theorem ok_p_figures_of (T : All K mg) : FnOk P w K mg base CX0 1 T.f_p_figures_of T.fd_p_figures_of ["number"] sp_p_figures_of := by
  refine T.d_p_figures_of.fn.ok sc_p_figures_of (fun vs H Q E h => ?_) (fun cdv A outer s H vs Q E hr h => ?_)
  · obtain ⟨n, rfl, _⟩ := h
    rfl
  · obtain ⟨n, rfl, hn, q⟩ := h
    refine ⟨_, (pss_cons (ps_set (i := 1) sc_p_figures_of.nd rfl (by first | exact Or.inl rfl | exact Or.inr rfl) (pe_lstI pa_nil))
      (pss_cons (ps_while PassesOwn.never (pt_cmpR op_ge (pv 0) (pe_glob (v := .int 10000000000000000000000000000000000000000000000000000000000000000) rfl T.c_CHUNK ⟨_, rfl⟩) (nomark _)) (pss_cons ps_never
      (pss_one ps_never)))
      (pss_cons (ps_expr (pe_bm PySem.F.plainAttrs_list PySem.F.slot_list_append PySem.F.type_list_append mt_append (pv 1) (pa_cons (pe_callTy call_str_int (by rfl) T.b_str (by decide +kernel) (pa_cons (pv 0) pa_nil)) pa_nil)))
      (pss_one (ps_ret (pe_joinRev (K := K) rfl (by rfl) (by rfl) T.b_reversed pe_str (pv 1))))))), ?_⟩
    refine ⟨rfl, fun l H1 s1 n1 h1 => ?_⟩
    refine ⟨fun m σ H' => σ = [some (.int (n : Int)), some (.ref l), none] ∧ H' = H1, ⟨0, rfl, rfl⟩, ?_⟩
    rintro m σ H' ⟨rfl, rfl⟩
    refine ⟨_, rfl, _, _, rfl, rfl, _, rfl, ?_⟩
    have small64 : ¬ ((10000000000000000000000000000000000000000000000000000000000000000 : Int) ≤ (n : Int)) := by omega
    refine ite_bF (decide_eq_false small64) ?_
    have lg : (n : Int).natAbs.log2 < 1920 := by
      rw [Int.natAbs_natCast]
      have : n < 2 ^ 220 := by omega
      exact Nat.lt_trans (PySem.Flt.log2_lt_of (by decide) this) (by decide)
    refine ⟨_, rfl, .inl ⟨rfl, _, SqL.of h1⟩, _, rfl, _, rfl, lg, l, _, _, rfl, rfl, h1, by decide, ?_⟩
    refine ⟨⟨_, rfl⟩, _, rfl, "", l, [S (TL.numL n)], rfl, rfl, SqL.of (by rw [upd_same, num_S] <;> rfl), ?_, ?_⟩
    · show (S (TL.numL n)).length + 0 + 1 * ("" : Str).length ≤ 16777216
      have e1 : (S (TL.numL n)).length ≤ 64 := by
        rw [S_len]
        exact TL.numL_len (by decide) hn
      have e2 : ("" : Str).length = 0 := by decide +kernel
      omega
    · have e : Txt.join "" [S (TL.numL n)].reverse = S (TL.numL n) := by
        rw [TL.join_eq]
        rfl
      rw [e]
      exact q _ (Same.put s1 n1)

end
end KR
namespace KR
open PySem PySem.Spec PyProof.Rows L2
section
variable {P : Program} {w : World} {K : PySem.W.Frag} {mg : Str → Option Value} {base : Heap}
def sp_p_are_figures : Sp := fun vs H Q _ => ∃ (l : List Nat) (m : Nat), vs = [.str (S l), .int (m : Int)] ∧ l.length ≤ 100000 ∧ Q (.bl (decide (l.length ≤ m) && figs l)) H
theorem ok_p_are_figures (T : All K mg) : FnOk P w K mg base CX0 1 T.f_p_are_figures T.fd_p_are_figures ["text", "most"] sp_p_are_figures := by
  refine T.d_p_are_figures.fn.ok sc_p_are_figures (fun vs H Q E h => ?_) (fun cdv A outer s H vs Q E hr h => ?_)
  · obtain ⟨l, m, rfl, _⟩ := h
    rfl
  · obtain ⟨l, m, rfl, hl, q⟩ := h
    refine ⟨_, (pss_one (ps_ret (pe_and (pe_cmpR op_le (pe_callB call_len_str (by rfl) T.b_len PySem.boot_len (pa_cons (pv 0) pa_nil)) (pv 1) (nomark _)) (pe_and (pe_bm0 PySem.F.plainAttrs_str PySem.F.slot_str_isascii PySem.F.type_str_isascii mt_isascii (pv 0)) (pe_one (pe_bm0 PySem.F.plainAttrs_str PySem.F.slot_str_isdigit PySem.F.type_str_isdigit mt_isdigit (pv 0))))))), ?_⟩
    refine ⟨_, rfl, _, rfl, by rw [S_len]; exact small hl, _, rfl, _, _, rfl, rfl, _, rfl, ?_⟩
    have e : decide (((S l).length : Int) ≤ (m : Int)) = decide (l.length ≤ m) := by
      rw [S_len]
      by_cases c : l.length ≤ m
      · rw [decide_eq_true c, decide_eq_true (by omega)]
      · rw [decide_eq_false c, decide_eq_false (by omega)]
    rw [e]
    cases c : decide (l.length ≤ m) with
    | false =>
      rw [c] at q
      exact iteF q
    | true =>
      rw [c, Bool.true_and] at q
      refine iteT ?_
      refine ⟨_, rfl, rfl, _, rfl, rfl, trivial, _, rfl, ?_⟩
      rw [ascii_S]
      cases a : l.all (· < 128) with
      | false =>
        refine iteF ?_
        cases f : figs l with
        | false =>
          rw [f] at q
          exact q
        | true =>
          rw [figs_ascii f] at a
          cases a
      | true =>
        refine iteT ?_
        refine ⟨_, rfl, rfl, _, rfl, rfl, trivial, ?_⟩
        rw [digit_S a]
        exact q

end
end KR
namespace KR
open PySem PySem.Spec PyProof.Rows L2
section
variable {P : Program} {w : World} {K : PySem.W.Frag} {mg : Str → Option Value} {base : Heap}
/-- a number of one to seven figures that is written as it is -/
def numN (l : List Nat) : Option Nat := if (decide (l.length ≤ 7) && figs l) = true then (if TL.numL (NumText.digitsVal l) = l then some (NumText.digitsVal l) else none) else none
def optN : Option Nat → V
  | some n => .int n
  | none => .non
theorem dv_lt : ∀ (n : Nat) (l : List Nat), l.length = n → NumText.AllDigits l → NumText.digitsVal l < 10 ^ n
  | 0, l, e, _ => by
    rw [List.length_eq_zero_iff.mp e]
    decide
  | n + 1, l, e, d => by
    rcases List.eq_nil_or_concat l with z | ⟨i, c, z⟩
    · rw [z] at e
      cases e
    · rw [z, List.concat_eq_append] at e d ⊢
      rw [List.length_append, List.length_singleton] at e
      have ih := dv_lt n i (by omega) fun x hx => d x (List.mem_append_left _ hx)
      have hc := d c (List.mem_append_right _ List.mem_cons_self)
      rw [NumText.digitsVal_snoc, Nat.pow_succ]
      omega
theorem figs_dig {l : List Nat} (h : figs l = true) : NumText.AllDigits l := fun c hc => by
  unfold figs at h
  rw [Bool.and_eq_true] at h
  have := List.all_eq_true.mp h.2 c hc
  rw [Bool.and_eq_true] at this
  exact ⟨of_decide_eq_true this.1, of_decide_eq_true this.2⟩
theorem numN_iff {l : List Nat} {n : Nat} : numN l = some n ↔ l = TL.numL n ∧ n < 10 ^ 7 := by
  unfold numN
  constructor
  · intro h
    by_cases c : (decide (l.length ≤ 7) && figs l) = true
    · rw [if_pos c] at h
      by_cases c2 : TL.numL (NumText.digitsVal l) = l
      · rw [if_pos c2] at h
        have e := Option.some.inj h
        subst e
        rw [Bool.and_eq_true] at c
        exact ⟨c2.symm, Nat.lt_of_lt_of_le (dv_lt _ l rfl (figs_dig c.2)) (Nat.pow_le_pow_right (by decide) (of_decide_eq_true c.1))⟩
      · rw [if_neg c2] at h
        cases h
    · rw [if_neg c] at h
      cases h
  · rintro ⟨rfl, hn⟩
    rw [decide_eq_true (TL.numL_len (by decide) hn), figs_num, if_pos (show (true && true) = true from rfl), TL.numL_val, if_pos rfl]
def sp_p_number_in : Sp := fun vs H Q _ => ∃ x : Str, vs = [.str x, .int 7] ∧ x.length ≤ 50000 ∧ ∀ H', Same H H' → Q (optN (numN (TL.tl x))) H'
theorem ok_p_number_in (T : All K mg) : FnOk P w K mg base CX0 2 T.f_p_number_in T.fd_p_number_in ["text", "most"] sp_p_number_in := by
  refine T.d_p_number_in.fn.ok sc_p_number_in (fun vs H Q E h => ?_) (fun cdv A outer s H vs Q E hr h => ?_)
  · obtain ⟨x, rfl, _⟩ := h
    rfl
  · obtain ⟨x, rfl, hx, q⟩ := h
    refine ⟨_, (pss_cons (ps_if (PW.pt (pw_or (pt_not (pt_val (pe_call (ok_p_are_figures T) hr (by rfl) T.d_p_are_figures.mg T.d_p_are_figures.fn.kp T.d_p_are_figures.b .nil pass0 (pa_cons (pv 0) (pa_cons (pv 1) pa_nil))))) (pw_or1 (pt_cmpR op_ne (pe_call (ok_p_figures_of T) hr (by rfl) T.d_p_figures_of.mg T.d_p_figures_of.fn.kp T.d_p_figures_of.b .nil pass0 (pa_cons (pe_callTy call_int_str (by rfl) T.b_int (by decide +kernel) (pa_cons (pv 0) pa_nil)) pa_nil)) (pv 0) (nomark _))))) (pss_one (ps_ret pe_non)) pss_nil)
      (pss_one (ps_ret (pe_callTy call_int_str (by rfl) T.b_int (by decide +kernel) (pa_cons (pv 0) pa_nil))))), ?_⟩
    obtain ⟨l, rfl⟩ : ∃ l, x = S l := ⟨TL.tl x, (S_tl x).symm⟩
    rw [S_len] at hx
    have q2 : ∀ H', Same H H' → Q (optN (numN l)) H' := q
    unfold numN at q2
    refine ⟨_, rfl, _, rfl, l, 7, rfl, by omega, ?_⟩
    refine ⟨_, rfl, ?_⟩
    cases c : decide (l.length ≤ 7) && figs l with
    | false =>
      rw [c] at q2
      exact iteT (q2 H (Same.refl _))
    | true =>
      rw [c, if_pos rfl] at q2
      have c0 := Bool.and_eq_true_iff.mp c
      have l7 := of_decide_eq_true c0.1
      have dl := Nat.lt_of_lt_of_le (dv_lt _ l rfl (figs_dig c0.2)) (Nat.pow_le_pow_right (n := 10) (by decide) l7)
      have fi : PySem.intText? (S l) = some ((NumText.digitsVal l : Nat) : Int) := figs_int c0.2 (Nat.le_trans l7 (by decide))
      have le : (S l).length ≤ 640 := by rw [S_len]; omega
      refine iteF ?_
      refine ⟨_, rfl, _, _, rfl, fi, le, NumText.digitsVal l, rfl, Nat.lt_trans dl (by decide), fun H1 s1 => ?_⟩
      refine ⟨_, rfl, rfl, _, rfl, ?_⟩
      by_cases c2 : TL.numL (NumText.digitsVal l) = l
      · rw [if_pos c2] at q2
        rw [decide_eq_true (show V.str (S (TL.numL (NumText.digitsVal l))) = V.str (S l) by rw [c2])]
        refine iteF ?_
        exact ⟨_, rfl, _, _, rfl, fi, le, q2 H1 s1⟩
      · rw [if_neg c2] at q2
        rw [decide_eq_false fun z => c2 (S_inj (V.str.inj z))]
        exact iteT (q2 H1 s1)

end
end KR
namespace KR
open PySem PySem.Spec PyProof.Rows L2
section
variable {P : Program} {w : World} {K : PySem.W.Frag} {mg : Str → Option Value} {base : Heap}
def sp_p_frac_text (K : PySem.W.Frag) : Sp := fun vs H Q _ => ∃ (a : Addr) (t b : Int), vs = [.ref a] ∧ SqT K H a [.int t, .int b] ∧ t.natAbs < 10 ^ 64 ∧ 0 ≤ b ∧ b.natAbs < 10 ^ 64 ∧ ∀ H', Same H H' → Q (.str (S (fracL t b))) H'
theorem ok_p_frac_text (T : All K mg) : FnOk P w K mg base CX0 2 T.f_p_frac_text T.fd_p_frac_text ["one"] (sp_p_frac_text K) := by
  refine T.d_p_frac_text.fn.ok sc_p_frac_text (fun vs H Q E h => ?_) (fun cdv A outer s H vs Q E hr h => ?_)
  · obtain ⟨a, t, b, rfl, _⟩ := h
    rfl
  · obtain ⟨a, t, b, rfl, ha, ht, b0, hb, q⟩ := h
    refine ⟨_, (pss_cons (ps_asg (pv 0) (pg_tupK (K := K) rfl rfl (pgs_cons (pg_name (i := 1) sc_p_frac_text.nd rfl (by first | exact Or.inl rfl | exact Or.inr rfl)) (pgs_cons (pg_name (i := 2) sc_p_frac_text.nd rfl (by first | exact Or.inl rfl | exact Or.inr rfl)) pgs_nil))))
      (pss_cons (ps_set (i := 3) sc_p_frac_text.nd rfl (by first | exact Or.inl rfl | exact Or.inr rfl) (pe_call (ok_p_figures_of T) hr (by rfl) T.d_p_figures_of.mg T.d_p_figures_of.fn.kp T.d_p_figures_of.b .nil pass0 (pa_cons (pe_callB call_abs (by rfl) T.b_abs (by decide +kernel) (pa_cons (pv 1) pa_nil)) pa_nil)))
      (pss_cons (ps_J (ps_if (pt_cmpR op_lt (pv 1) pe_int (nomark _)) (pss_one (ps_set (i := 3) sc_p_frac_text.nd rfl (by first | exact Or.inl rfl | exact Or.inr rfl) (pe_op op_add_str pe_str (pv 3)))) pss_nil))
      (pss_cons (ps_J (ps_if (pt_cmpR op_ne (pv 2) pe_int (nomark _)) (pss_one (ps_set (i := 3) sc_p_frac_text.nd rfl (by first | exact Or.inl rfl | exact Or.inr rfl) (pe_op op_add_str (pe_op op_add_str (pv 3) pe_str) (pe_call (ok_p_figures_of T) hr (by rfl) T.d_p_figures_of.mg T.d_p_figures_of.fn.kp T.d_p_figures_of.b .nil pass0 (pa_cons (pv 2) pa_nil))))) pss_nil))
      (pss_one (ps_ret (pv 3))))))), ?_⟩
    refine ⟨_, rfl, a, _, rfl, ha, rfl, _, _, rfl, _, _, rfl, rfl, ?_⟩
    have abs_ : (if t < 0 then -t else t) = (t.natAbs : Int) := by split <;> omega
    refine ⟨_, rfl, _, rfl, t.natAbs, by rw [abs_] <;> rfl, ht, fun H1 s1 => ?_⟩
    have l1 : (TL.numL t.natAbs).length ≤ 64 := TL.numL_len (by decide) ht
    have l2 : (TL.numL b.natAbs).length ≤ 64 := TL.numL_len (by decide) hb
    -- the minus
    refine ⟨fun σ' H' => σ' = [some (.ref a), some (.int t), some (.int b), some (.str (S ((if t < 0 then [45] else []) ++ TL.numL t.natAbs)))] ∧ H' = H1, ?_, ?_⟩
    · rintro σ' H' ⟨rfl, rfl⟩
      refine ⟨fun σ' H2 => ∃ H3, σ' = [some (.ref a), some (.int t), some (.int b), some (.str (S (fracL t b)))] ∧ H2 = H3 ∧ Same H H3, ?_, ?_⟩
      · rintro σ' H2 ⟨H3, rfl, rfl, s3⟩
        exact ⟨_, rfl, q _ s3⟩
      · refine ⟨_, rfl, rfl, _, rfl, ?_⟩
        by_cases b1 : b = 1
        · refine ite_nF b1 ?_
          refine ⟨_, ?_, rfl, s1⟩
          unfold fracL
          rw [if_pos b1, List.append_nil]
        · refine ite_nT b1 ?_
          refine ⟨_, rfl, _, _, rfl, rfl, ?_, _, rfl, b.natAbs, by rw [show (b.natAbs : Int) = b by omega] <;> rfl, hb, fun H4 s4 => ?_⟩
          · rw [lit_stroke, S_len, S_len, List.length_append]
            have : (if t < 0 then [45] else [] : List Nat).length ≤ 1 := by split <;> decide
            exact small (by show _ + 1 ≤ 100000; omega)
          · refine ⟨_, _, rfl, rfl, ?_, ?_⟩
            · rw [lit_stroke, S_app, S_len, S_len, List.length_append, List.length_append]
              have : (if t < 0 then [45] else [] : List Nat).length ≤ 1 := by split <;> decide
              exact small (by show _ + 1 + _ ≤ 100000; omega)
            · refine ⟨_, ?_, rfl, s1.trans s4⟩
              unfold fracL
              rw [if_neg b1, lit_stroke, S_app, S_app, List.append_assoc, List.append_assoc]
              rfl
    · refine ⟨_, rfl, _, _, rfl, rfl, _, rfl, ?_⟩
      by_cases t0 : t < 0
      · refine ite_bT (decide_eq_true t0) ?_
        refine ⟨_, rfl, _, _, rfl, rfl, ?_, ?_⟩
        · rw [lit_minus, S_len, S_len]
          exact small (by show 1 + _ ≤ 100000; omega)
        · refine ⟨?_, rfl⟩
          rw [if_pos t0, lit_minus, S_app]
          rfl
      · refine ite_bF (decide_eq_false t0) ?_
        refine ⟨?_, rfl⟩
        rw [if_neg t0]
        rfl

end
end KR
namespace KR
open PySem PySem.Spec PyProof.Rows L2
section
variable {P : Program} {w : World} {K : PySem.W.Frag} {mg : Str → Option Value} {base : Heap}
/-- what a text reads as -/
def bareL (l : List Nat) : List Nat := if l.head? = some 45 then l.tail else l
def botL (l : List Nat) : List Nat := if (cutL (bareL l)).2.1 = true then (cutL (bareL l)).2.2 else [49]
def okL (l : List Nat) : Bool := decide (l.length ≤ 40) && figs l
def readL (l : List Nat) : Option (Int × Int) :=
  if okL (cutL (bareL l)).1 = true then if okL (botL l) = true then some (if l.head? = some 45 then -((NumText.digitsVal (cutL (bareL l)).1 : Nat) : Int) else ((NumText.digitsVal (cutL (bareL l)).1 : Nat) : Int), ((NumText.digitsVal (botL l) : Nat) : Int)) else none else none
theorem bare_len (l : List Nat) : (bareL l).length ≤ l.length := by
  unfold bareL
  split
  · rw [List.length_tail]
    omega
  · exact Nat.le_refl _
theorem part_S (m : List Nat) : ∃ x, Txt.partition (S m) (S [47]) = (S (cutL m).1, x, S (cutL m).2.2) ∧ x.length ≤ 1 ∧ ((x.length : Int) != 0) = (cutL m).2.1 := by
  rcases cut_ways m with ⟨h, e⟩ | ⟨a, b, rfl, h, e⟩
  · refine ⟨Str.empty, ?_, by decide +kernel, ?_⟩
    · rw [e, TL.partition_none (s := 47) (S := []) rfl h, lit_empty]
    · rw [e]
      show ((Str.empty.length : Int) != 0) = false
      decide +kernel
  · refine ⟨S [47], ?_, by decide +kernel, ?_⟩
    · rw [e, show S (a ++ 47 :: b) = S a ++ S [47] ++ S b by rw [S_app, S_app, List.append_assoc] <;> rfl, TL.partition_app (s := 47) (S := []) rfl h]
    · rw [e]
      show (((S [47]).length : Int) != 0) = true
      decide +kernel
theorem cut_len (m : List Nat) : (cutL m).1.length ≤ m.length ∧ (cutL m).2.2.length ≤ m.length := by
  rcases cut_ways m with ⟨h, e⟩ | ⟨a, b, rfl, h, e⟩
  · rw [e]
    exact ⟨Nat.le_refl _, Nat.zero_le _⟩
  · rw [e, List.length_append, List.length_cons]
    exact ⟨by show a.length ≤ _; omega, by show b.length ≤ _; omega⟩
theorem okL_fits {l : List Nat} (h : okL l = true) : PySem.intText? (S l) = some ((NumText.digitsVal l : Nat) : Int) ∧ (S l).length ≤ 640 := by
  unfold okL at h
  rw [Bool.and_eq_true] at h
  have z := of_decide_eq_true h.1
  exact ⟨figs_int h.2 (by omega), by rw [S_len]; omega⟩
def sp_p__read : Sp := fun vs H Q _ => ∃ l : List Nat, vs = [.str (S l)] ∧ l.length ≤ 50000 ∧ (readL l = none → ∀ H', Same H H' → Q .non H') ∧ (∀ t b, readL l = some (t, b) → ∀ p H', Same H H' → H p = none → H' p = some (.tup [.int t, .int b]) → Q (.ref p) H')
theorem ok_p__read (T : All K mg) : FnOk P w K mg base CX0 2 T.f_p__read T.fd_p__read ["text"] sp_p__read := by
  refine T.d_p__read.fn.ok sc_p__read (fun vs H Q E h => ?_) (fun cdv A outer s H vs Q E hr h => ?_)
  · obtain ⟨l, rfl, _⟩ := h
    rfl
  · obtain ⟨l, rfl, hl, qn, qs⟩ := h
    refine ⟨_, (pss_cons (ps_asg (pe_partition (pe_bm PySem.F.plainAttrs_str PySem.F.slot_str_removeprefix PySem.F.type_str_removeprefix mt_removeprefix (pv 0) (pa_cons pe_str pa_nil)) pe_str) (pg_tupK (K := K) rfl rfl (pgs_cons (pg_name (i := 1) sc_p__read.nd rfl (by first | exact Or.inl rfl | exact Or.inr rfl)) (pgs_cons (pg_name (i := 2) sc_p__read.nd rfl (by first | exact Or.inl rfl | exact Or.inr rfl)) (pgs_cons (pg_name (i := 3) sc_p__read.nd rfl (by first | exact Or.inl rfl | exact Or.inr rfl)) pgs_nil)))))
      (pss_cons (ps_J (ps_if (pt_not (pt_truth (pv 2) (by intro _; rfl))) (pss_one (ps_set (i := 3) sc_p__read.nd rfl (by first | exact Or.inl rfl | exact Or.inr rfl) pe_str)) pss_nil))
      (pss_cons (ps_if (PW.pt (pw_or (pt_not (pt_val (pe_call (ok_p_are_figures T) hr (by rfl) T.d_p_are_figures.mg T.d_p_are_figures.fn.kp T.d_p_are_figures.b .nil pass0 (pa_cons (pv 1) (pa_cons (pe_glob (v := .int 40) rfl T.c_MOST_FIGURES_fractext ⟨_, rfl⟩) pa_nil))))) (pw_or1 (pt_not (pt_val (pe_call (ok_p_are_figures T) hr (by rfl) T.d_p_are_figures.mg T.d_p_are_figures.fn.kp T.d_p_are_figures.b .nil pass0 (pa_cons (pv 3) (pa_cons (pe_glob (v := .int 40) rfl T.c_MOST_FIGURES_fractext ⟨_, rfl⟩) pa_nil)))))))) (pss_one (ps_ret pe_non)) pss_nil)
      (pss_cons (ps_if (pt_val (pe_bm PySem.F.plainAttrs_str PySem.F.slot_str_startswith PySem.F.type_str_startswith mt_startswith (pv 0) (pa_cons pe_str pa_nil))) (pss_one (ps_ret (pe_tupI (pa_cons (pe_un un_neg (pe_callTy call_int_str (by rfl) T.b_int (by decide +kernel) (pa_cons (pv 1) pa_nil))) (pa_cons (pe_callTy call_int_str (by rfl) T.b_int (by decide +kernel) (pa_cons (pv 3) pa_nil)) pa_nil))))) pss_nil)
      (pss_one (ps_ret (pe_tupI (pa_cons (pe_callTy call_int_str (by rfl) T.b_int (by decide +kernel) (pa_cons (pv 1) pa_nil)) (pa_cons (pe_callTy call_int_str (by rfl) T.b_int (by decide +kernel) (pa_cons (pv 3) pa_nil)) pa_nil))))))))), ?_⟩
    have hb := bare_len l
    have hc := cut_len (bareL l)
    refine ⟨_, rfl, rfl, _, _, rfl, rfl, by rw [S_len]; exact small (by omega), ⟨_, rfl⟩, _, _, rfl, rfl, by decide +kernel, ?_, fun p hp => ?_⟩
    · rw [lit_minus, prefix_minus, S_len]
      exact small (by show (bareL l).length ≤ 100000; omega)
    rw [lit_minus, prefix_minus, lit_stroke]
    obtain ⟨x, ex, x1, xt⟩ := part_S (bareL l)
    have ex' : Txt.partition (S (if l.head? = some 45 then l.tail else l)) (S [47]) = _ := ex
    rw [ex']
    generalize eH : upd H p (.tup [.str (S (cutL (bareL l)).1), .str x, .str (S (cutL (bareL l)).2.2)]) = H1
    have s1 : Same H H1 := by rw [← eH]; exact same_new hp
    have h1 : H1 p = some (.tup [.str (S (cutL (bareL l)).1), .str x, .str (S (cutL (bareL l)).2.2)]) := by rw [← eH]; exact upd_same
    refine ⟨p, _, rfl, SqT.of h1, rfl, _, _, rfl, _, _, rfl, _, _, rfl, rfl, ?_⟩
    refine ⟨fun σ' H' => σ' = [some (.str (S l)), some (.str (S (cutL (bareL l)).1)), some (.str x), some (.str (S (botL l)))] ∧ H' = H1, ?_, ?_⟩
    · rintro σ' H' ⟨rfl, rfl⟩
      have lb : (botL l).length ≤ 50000 := by
        unfold botL
        split
        · omega
        · show 1 ≤ 50000
          decide
      refine ⟨_, rfl, _, 40, rfl, by omega, ?_⟩
      refine ⟨_, rfl, ?_⟩
      show if (!okL (cutL (bareL l)).1) = true then _ else _
      cases c1 : okL (cutL (bareL l)).1 with
      | false =>
        refine iteT ?_
        exact qn (by unfold readL; rw [c1]; rfl) _ s1
      | true =>
        refine iteF ?_
        refine ⟨_, rfl, _, 40, rfl, by omega, ?_⟩
        refine ⟨_, rfl, ?_⟩
        show if (!okL (botL l)) = true then _ else _
        cases c2 : okL (botL l) with
        | false =>
          refine iteT ?_
          exact qn (by unfold readL; rw [c1, c2]; rfl) _ s1
        | true =>
          refine iteF ?_
          obtain ⟨i1, i2⟩ := okL_fits c1
          obtain ⟨j1, j2⟩ := okL_fits c2
          refine ⟨_, rfl, rfl, _, _, rfl, rfl, _, rfl, ?_⟩
          rw [starts_minus]
          have er : readL l = some (if l.head? = some 45 then -((NumText.digitsVal (cutL (bareL l)).1 : Nat) : Int) else ((NumText.digitsVal (cutL (bareL l)).1 : Nat) : Int), ((NumText.digitsVal (botL l) : Nat) : Int)) := by
            unfold readL
            rw [if_pos c1, if_pos c2]
          by_cases m : l.head? = some 45
          · refine ite_bT (by rw [m] <;> rfl) ?_
            refine ⟨_, rfl, _, _, rfl, i1, i2, _, rfl, _, rfl, _, _, rfl, j1, j2, rfl, fun q H2 s2 n2 h2 => ?_⟩
            rw [if_pos m] at er
            exact qs _ _ er q H2 (s1.trans s2) (by
              cases e : H q with
              | none => rfl
              | some u =>
                rw [s1 _ _ e] at n2
                cases n2) h2
          · refine ite_bF (by rw [beq_eq_false_iff_ne]; exact m) ?_
            refine ⟨_, rfl, _, _, rfl, i1, i2, _, rfl, _, _, rfl, j1, j2, rfl, fun q H2 s2 n2 h2 => ?_⟩
            rw [if_neg m] at er
            exact qs _ _ er q H2 (s1.trans s2) (by
              cases e : H q with
              | none => rfl
              | some u =>
                rw [s1 _ _ e] at n2
                cases n2) h2
    · refine ⟨_, rfl, _, ⟨small (by omega), rfl⟩, ?_⟩
      rw [xt]
      cases c : (cutL (bareL l)).2.1 with
      | true =>
        refine iteF ?_
        refine ⟨?_, rfl⟩
        rw [show botL l = (cutL (bareL l)).2.2 from if_pos c]
        rfl
      | false =>
        refine iteT ?_
        refine ⟨?_, rfl⟩
        rw [show botL l = [49] from if_neg (by rw [c]; exact Bool.false_ne_true), ← lit_one]
        rfl

end
end KR
namespace KR
open PySem PySem.Spec PyProof.Rows L2
section
variable {P : Program} {w : World} {K : PySem.W.Frag} {mg : Str → Option Value} {base : Heap}
structure Frac9 (l : List Nat) (t b : Int) : Prop where
  low : IsLow t b
  ta : t.natAbs < 10 ^ 40
  tb : b.natAbs < 10 ^ 40
  eq : l = fracL t b
theorem num_head (n : Nat) (r : List Nat) : (TL.numL n ++ r).head? ≠ some 45 := by
  intro e
  have ne := TL.numL_ne n
  cases c : TL.numL n with
  | nil => exact ne c
  | cons x y =>
    rw [c] at e
    have ex : x = 45 := Option.some.inj e
    have := TL.numL_digits n x (by rw [c]; exact List.mem_cons_self)
    omega
theorem bare_frac (t b : Int) : bareL (fracL t b) = TL.numL t.natAbs ++ (if b = 1 then [] else 47 :: TL.numL b.natAbs) ∧ ((fracL t b).head? = some 45 ↔ t < 0) := by
  unfold fracL
  by_cases c : t < 0
  · rw [if_pos c]
    exact ⟨if_pos rfl, fun _ => c, fun _ => rfl⟩
  · rw [if_neg c, List.nil_append]
    exact ⟨if_neg (num_head _ _), fun h => absurd h (num_head _ _), fun h => absurd h c⟩
theorem okL_num {n : Nat} (h : n < 10 ^ 40) : okL (TL.numL n) = true := by
  unfold okL
  rw [figs_num, Bool.and_true]
  exact decide_eq_true (TL.numL_len (by decide) h)
theorem read_frac {t b : Int} (h : IsLow t b) (ht : t.natAbs < 10 ^ 40) (hb : b.natAbs < 10 ^ 40) : readL (fracL t b) = some (t, b) := by
  obtain ⟨e1, e2⟩ := bare_frac t b
  have pos := h.pos
  have c : (cutL (bareL (fracL t b))).1 = TL.numL t.natAbs ∧ okL (botL (fracL t b)) = true ∧ ((NumText.digitsVal (botL (fracL t b)) : Nat) : Int) = b := by
    unfold botL
    rw [e1]
    by_cases b1 : b = 1
    · rw [if_pos b1, List.append_nil, cut_none (TL.numL_free (by decide)), b1]
      exact ⟨rfl, by show okL [49] = true; decide +kernel, by show ((NumText.digitsVal [49] : Nat) : Int) = 1; decide +kernel⟩
    · rw [if_neg b1, cut_app (TL.numL_free (by decide))]
      refine ⟨rfl, okL_num hb, ?_⟩
      show ((NumText.digitsVal (TL.numL b.natAbs) : Nat) : Int) = b
      rw [TL.numL_val]
      omega
  obtain ⟨c1, c2, c3⟩ := c
  unfold readL
  rw [if_pos c2, c1, if_pos (okL_num ht), c3, TL.numL_val]
  by_cases z : t < 0
  · rw [if_pos (e2.mpr z)]
    have : -((t.natAbs : Nat) : Int) = t := by omega
    rw [this]
  · rw [if_neg fun y => z (e2.mp y)]
    have : ((t.natAbs : Nat) : Int) = t := by omega
    rw [this]
theorem frac_len9 {t b : Int} (ht : t.natAbs < 10 ^ 40) (hb : b.natAbs < 10 ^ 40) : (fracL t b).length ≤ 82 := by
  have h1 := TL.numL_len (k := 40) (by decide) ht
  have h2 := TL.numL_len (k := 40) (by decide) hb
  have h3 : (if t < 0 then [45] else [] : List Nat).length ≤ 1 := by split <;> decide
  have h4 : (if b = 1 then [] else 47 :: TL.numL b.natAbs : List Nat).length ≤ 41 := by
    split
    · exact Nat.zero_le _
    · rw [List.length_cons]
      omega
  unfold fracL
  rw [List.length_append, List.length_append]
  omega
theorem okL_lt {l : List Nat} (h : okL l = true) : NumText.digitsVal l < 10 ^ 40 := by
  unfold okL at h
  rw [Bool.and_eq_true] at h
  have z := of_decide_eq_true h.1
  exact Nat.lt_of_lt_of_le (dv_lt _ l rfl (figs_dig h.2)) (Nat.pow_le_pow_right (by decide) z)
theorem read_lt {l : List Nat} {t b : Int} (h : readL l = some (t, b)) : t.natAbs < 10 ^ 40 ∧ b.natAbs < 10 ^ 40 := by
  unfold readL at h
  by_cases c1 : okL (cutL (bareL l)).1 = true
  · rw [if_pos c1] at h
    by_cases c2 : okL (botL l) = true
    · rw [if_pos c2] at h
      have e := Option.some.inj h
      have e1 := congrArg Prod.fst e
      have e2 := congrArg Prod.snd e
      have k1 := okL_lt c1
      have k2 := okL_lt c2
      dsimp only at e1 e2
      refine ⟨?_, by omega⟩
      by_cases m : l.head? = some 45
      · rw [if_pos m] at e1
        omega
      · rw [if_neg m] at e1
        omega
    · rw [if_neg c2] at h
      cases h
  · rw [if_neg c1] at h
    cases h
/-- what frac_in looks at is just this law's own reading -/
theorem read_is {l : List Nat} {t b : Int} : Frac9 l t b ↔ readL l = some (t, b) ∧ isFracD (.tuple [.int t, .int b]) = true ∧ fracL t b = l := by
  have isf : isFracD (.tuple [.int t, .int b]) = (decide (0 < b) && decide (Nat.gcd t.natAbs b.natAbs = 1)) := rfl
  constructor
  · intro F
    refine ⟨by rw [F.eq]; exact read_frac F.low F.ta F.tb, ?_, F.eq.symm⟩
    rw [isf, decide_eq_true F.low.pos, decide_eq_true F.low.cop] <;> rfl
  · rintro ⟨h1, h2, h3⟩
    rw [isf, Bool.and_eq_true] at h2
    obtain ⟨k1, k2⟩ := read_lt h1
    exact ⟨⟨of_decide_eq_true h2.1, of_decide_eq_true h2.2⟩, k1, k2, h3.symm⟩
def sp_p_frac_in (K : PySem.W.Frag) (C : Addr) : Sp := fun vs H Q E => ∃ l : List Nat, vs = [.str (S l)] ∧ l.length ≤ 50000 ∧ (∀ t b, Frac9 l t b → ∀ p H', Same H H' → H p = none → H' p = some (.tup [.int t, .int b]) → Q (.ref p) H') ∧
  ((∀ t b, ¬ Frac9 l t b) → ∀ d H', Same H H' → H' d = some (.xd (wh "BadFrac" (.str (S l)))) → E (.ref C) (some d) H')
theorem ok_p_frac_in (T : All K mg) : FnOk P w K mg base (L2.CX P w) 3 T.f_p_frac_in T.fd_p_frac_in ["text"] (sp_p_frac_in K T.C_BadFrac) := by
  refine T.d_p_frac_in.fn.okX sc_p_frac_in (fun vs H Q E h => ?_) (fun cdv A outer s H vs Q E hr h => ?_)
  · obtain ⟨l, rfl, _⟩ := h
    rfl
  · obtain ⟨l, rfl, hl, qs, qn⟩ := h
    refine ⟨_, (pss_cons (ps_set (i := 1) sc_p_frac_in.nd rfl (by first | exact Or.inl rfl | exact Or.inr rfl) (pe_call (ok_p__read T) hr (by rfl) T.d_p__read.mg T.d_p__read.fn.kp T.d_p__read.b .nil pass0 (pa_cons (pv 0) pa_nil)))
      (pss_cons (ps_if (PW.pt (pw_or (pt_not (pt_val (pe_call (ok_p_is_frac T) hr (by rfl) T.d_p_is_frac.mg T.d_p_is_frac.fn.kp T.d_p_is_frac.b .nil pass0 (pa_cons (pv 1) pa_nil)))) (pw_or1 (pt_cmpR op_ne (pe_call (ok_p_frac_text T) hr (by rfl) T.d_p_frac_text.mg T.d_p_frac_text.fn.kp T.d_p_frac_text.b .nil pass0 (pa_cons (pv 1) pa_nil)) (pv 0) (nomark _))))) (pss_one (ps_raise rfl (takes_of rfl rfl rfl rfl) (pmk_oex T.O_BadFrac T.i_BadFrac T.tI_BadFrac (ok_init_BadFrac T) (hr.mono (by decide)) T.bI_BadFrac .nil pass0 rfl T.g_BadFrac (by exact (pa_cons (pv 0) pa_nil))))) pss_nil)
      (pss_one (ps_ret (pv 1))))), ?_⟩
    -- the way out
    have out : (∀ t b, ¬ Frac9 l t b) → ∀ H1, Same H H1 → tMkO T.C_BadFrac (sp_initX T.C_BadFrac "BadFrac") [] (tCons (tVar 0) tNil) [some (.str (S l)), none] H1 (fun cls d H' => E cls d H') := by
      intro no H1 s1
      refine ⟨_, rfl, by show 1 ≤ 1000; decide, fun a ha => ⟨a, .str (S l), rfl, upd_same, fun d hd hne => ?_⟩⟩
      rw [upd_ne hne] at hd
      exact ⟨rfl, d, (wh "BadFrac" (.str (S l))), upd_same, by rw [upd_ne hne, upd_same], hd, qn no d _ (s1.trans (raised_keeps ha hd)) upd_same⟩
    have w : ∀ {n : Nat}, n < 10 ^ 40 → n < 10 ^ 64 := fun h => Nat.lt_trans h (by decide)
    refine ⟨_, rfl, l, rfl, hl, fun e H1 s1 => ?_, fun t b e p H1 s1 n1 h1 => ?_⟩
    · have no : ∀ t b, ¬ Frac9 l t b := fun t b F => by
        rw [(read_is.mp F).1] at e
        cases e
      refine ⟨_, rfl, (0 : Nat), 1, _, .none, rfl, Dj.non 0, ?_⟩
      exact ⟨_, rfl, iteT (iteT (out no H1 s1))⟩
    · have rb := read_lt e
      refine ⟨_, rfl, (0 : Nat), 2, _, .tuple [.int t, .int b], rfl, .tup (SqT.of h1) rfl (by show 2 ≤ 100000; decide) (fun i u v hu hv => match i, hu, hv with
        | 0, hu, hv => by cases hu; cases hv; exact .int 0 t (b40 rb.1)
        | 1, hu, hv => by cases hu; cases hv; exact .int 0 b (b40 rb.2)
        | i + 2, hu, _ => by simp at hu), ?_⟩
      have only : ∀ t' b', Frac9 l t' b' → t' = t ∧ b' = b := fun t' b' F => by
        have z := (read_is.mp F).1
        rw [e] at z
        have z2 := Option.some.inj z
        exact ⟨(congrArg Prod.fst z2).symm, (congrArg Prod.snd z2).symm⟩
      obtain ⟨bt, bb⟩ := read_lt e
      cases isf : isFracD (.tuple [.int t, .int b]) with
      | false =>
        have no : ∀ t b, ¬ Frac9 l t b := fun t' b' F => by
          obtain ⟨e1, e2⟩ := only t' b' F
          rw [e1, e2] at F
          rw [(read_is.mp F).2.1] at isf
          cases isf
        exact ⟨_, rfl, iteT (iteT (out no H1 s1))⟩
      | true =>
        have lo : 0 < b := by
          have z : (decide (0 < b) && decide (Nat.gcd t.natAbs b.natAbs = 1)) = true := isf
          rw [Bool.and_eq_true] at z
          exact of_decide_eq_true z.1
        refine ⟨_, rfl, iteF ?_⟩
        refine ⟨_, rfl, p, t, b, rfl, SqT.of h1, w bt, Int.le_of_lt lo, w bb, fun H2 s2 => ?_⟩
        by_cases same : fracL t b = l
        · refine ⟨_, rfl, rfl, _, rfl, ?_⟩
          rw [same, decide_eq_true rfl]
          refine iteF ?_
          exact ⟨_, rfl, qs t b (read_is.mpr ⟨e, isf, same⟩) p H2 (s1.trans s2) n1 (s2 _ _ h1)⟩
        · have no : ∀ t b, ¬ Frac9 l t b := fun t' b' F => by
            obtain ⟨e1, e2⟩ := only t' b' F
            rw [e1, e2] at F
            exact same (read_is.mp F).2.2
          refine ⟨_, rfl, rfl, _, rfl, ?_⟩
          have ne : V.str (S (fracL t b)) ≠ V.str (S l) := fun z => same (by
            have y := congrArg TL.tl (V.str.inj z)
            exact y)
          rw [decide_eq_false ne]
          exact iteT (out no H2 (s1.trans s2))
/-- the fraction of a word, as a part -/
def fracW (l : List Nat) : Pt := match readL l with
  | some (t, b) => if fracB t b = true ∧ fracL t b = l then .f t b else .o
  | none => .o
theorem fracW_iff {l : List Nat} {t b : Int} : fracW l = .f t b ↔ Frac9 l t b := by
  rw [read_is]
  have e1 : ∀ t b : Int, isFracD (.tuple [.int t, .int b]) = fracB t b := fun _ _ => rfl
  unfold fracW
  constructor
  · intro h
    cases e : readL l with
    | none =>
      rw [e] at h
      cases h
    | some z =>
      obtain ⟨t', b'⟩ := z
      rw [e] at h
      dsimp only at h
      by_cases c : fracB t' b' = true ∧ fracL t' b' = l
      · rw [if_pos c] at h
        cases h
        exact ⟨rfl, (e1 _ _).trans c.1, c.2⟩
      · rw [if_neg c] at h
        cases h
  · rintro ⟨h1, h2, h3⟩
    rw [h1]
    exact if_pos ⟨h2, h3⟩
theorem fracW_o {l : List Nat} (h : ∀ t b, ¬ Frac9 l t b) : fracW l = .o := by
  cases e : fracW l with
  | o => rfl
  | f t b => exact absurd (fracW_iff.mp e) (h t b)
  | s x =>
    unfold fracW at e
    split at e
    · split at e <;> cases e
    · cases e
  | i n =>
    unfold fracW at e
    split at e
    · split at e <;> cases e
    · cases e

end
end KR
namespace KR
open PySem PySem.Spec PyProof.Rows L2
section
variable {P : Program} {w : World} {K : PySem.W.Frag} {mg : Str → Option Value} {base : Heap}
def sp_p_frac_or_none (K : PySem.W.Frag) : Sp := fun vs H Q _ => ∃ x : Str, vs = [.str x] ∧ x.length ≤ 50000 ∧ ∀ v H', Same H H' → PtAt K H' v (fracW (TL.tl x)) → Q v H'
theorem ok_p_frac_or_none (T : All K mg) : FnOk P w K mg base CX0 4 T.f_p_frac_or_none T.fd_p_frac_or_none ["text"] (sp_p_frac_or_none K) := by
  refine T.d_p_frac_or_none.fn.ok sc_p_frac_or_none (fun vs H Q E h => ?_) (fun cdv A outer s H vs Q E hr h => ?_)
  · obtain ⟨x, rfl, _⟩ := h
    rfl
  · obtain ⟨x, rfl, hx, q⟩ := h
    refine ⟨_, (pss_one (ps_try_only (tb := fun W => tRet (tCallS (sp_p_frac_in K T.C_BadFrac) (WE W) (tCons (tVar 0) tNil))) (ts := fun _ _ _ => tRet (tC .non)) (Wout := fun _ _ _ _ => False) rfl rfl ⟨rfl, by decide, Or.inl T.g_BadFrac⟩ takes0 (fun W pn xe tk _ => pss_one (ps_ret (by exact (pe_callS (ok_p_frac_in T) hr rfl T.d_p_frac_in.mg T.d_p_frac_in.fn.kp T.d_p_frac_in.b (fun σ => passAt tk σ) (by exact (pa_cons (pv 0) pa_nil)))))) (fun a ob cls d pn z f => pss_one (ps_ret pe_non)))), ?_⟩
    obtain ⟨l, rfl⟩ : ∃ l, x = S l := ⟨TL.tl x, (S_tl x).symm⟩
    rw [S_len] at hx
    have q2 : ∀ v H', Same H H' → PtAt K H' v (fracW l) → Q v H' := q
    refine ⟨_, rfl, l, rfl, hx, fun t b F p H1 s1 n1 h1 => ?_, fun no d H1 s1 h1 => ?_⟩
    · refine q2 _ H1 s1 ?_
      rw [fracW_iff.mpr F]
      exact ⟨⟨p, rfl, SqT.of h1⟩, b40 F.ta, b40 F.tb⟩
    · refine ⟨true, T.teF, fun _ a ha => ?_, fun z => nomatch z⟩
      rw [fracW_o no] at q2
      exact q2 _ H1 s1 rfl

end
end KR
namespace KR
open PySem PySem.Spec PyProof.Rows L2
section
variable {P : Program} {w : World} {K : PySem.W.Frag} {mg : Str → Option Value} {base : Heap}
def numP (x : Str) : Pt := match numN (TL.tl x) with
  | some n => .i n
  | none => .o
theorem pt_num {H : Hp} (x : Str) : PtAt K H (optN (numN (TL.tl x))) (numP x) := by
  unfold numP
  cases e : numN (TL.tl x) with
  | none => rfl
  | some n =>
    obtain ⟨_, hn⟩ := numN_iff.mp e
    exact ⟨rfl, by rw [Int.natAbs_natCast]; exact Nat.lt_trans hn (by decide)⟩
/-- what the words of a row tell -/
def thingP : List Str → List Pt
  | [w, n, r, f, m] => if w = "kettle" then [.s n, numP r, numP f, fracW (TL.tl m)] else []
  | [w, n, r, m] => if w = "mould" then [.s n, numP r, fracW (TL.tl m)] else []
  | _ => []
theorem thingP_k {n r f m : Str} : thingP [("kettle" : Str), n, r, f, m] = [.s n, numP r, numP f, fracW (TL.tl m)] := if_pos (c := ("kettle" : Str) = "kettle") (e := []) rfl
theorem thingP_m {n r m : Str} : thingP [("mould" : Str), n, r, m] = [.s n, numP r, fracW (TL.tl m)] := if_pos (c := ("mould" : Str) = "mould") (e := []) rfl
theorem thingP_no {ws : List Str} (h1 : ∀ vs, ws = ("kettle" : Str) :: vs → vs.length ≠ 4) (h2 : ∀ vs, ws = ("mould" : Str) :: vs → vs.length ≠ 3) : thingP ws = [] := by
  match ws, h1, h2 with
  | [], _, _ => rfl
  | [_], _, _ => rfl
  | [_, _], _, _ => rfl
  | [_, _, _], _, _ => rfl
  | [w, n, r, m], h1, h2 => exact if_neg fun z => h2 [n, r, m] (by rw [z]) rfl
  | [w, n, r, f, m], h1, h2 => exact if_neg fun z => h1 [n, r, f, m] (by rw [z]) rfl
  | _ :: _ :: _ :: _ :: _ :: _ :: _, _, _ => rfl
def sp_p__thing_in (K : PySem.W.Frag) : Sp := fun vs H Q _ => ∃ (wl : Addr) (ws : List Str), vs = [.ref wl] ∧ SqL K H wl (ws.map V.str) ∧ (∀ w ∈ ws, w.length ≤ 50000) ∧ ∀ v H', Same H H' → ThAt K H' v (thingP ws) → Q v H'
theorem ok_p__thing_in (T : All K mg) : FnOk P w K mg base CX0 5 T.f_p__thing_in T.fd_p__thing_in ["words"] (sp_p__thing_in K) := by
  refine T.d_p__thing_in.fn.ok sc_p__thing_in (fun vs H Q E h => ?_) (fun cdv A outer s H vs Q E hr h => ?_)
  · obtain ⟨wl, ws, rfl, _⟩ := h
    rfl
  · obtain ⟨wl, ws, rfl, hl, h9, q⟩ := h
    refine ⟨_, (pss_cons (ps_matchS (K := K) rfl (pv 0) (pm_cons rfl sc_p__thing_in.nd (.cons 1 rfl (by first | exact Or.inl rfl | exact Or.inr rfl) (by first | exact Or.inr rfl | exact Or.inl rfl) (.cons 2 rfl (by first | exact Or.inl rfl | exact Or.inr rfl) (by first | exact Or.inr rfl | exact Or.inl rfl) (.cons 3 rfl (by first | exact Or.inl rfl | exact Or.inr rfl) (by first | exact Or.inr rfl | exact Or.inl rfl) (.cons 4 rfl (by first | exact Or.inl rfl | exact Or.inr rfl) (by first | exact Or.inr rfl | exact Or.inl rfl) .nil)))) (pss_one (ps_ret (pe_tupI (pa_cons (pv 1) (pa_cons (pe_call (ok_p_number_in T) (hr.mono (by decide)) (by rfl) T.d_p_number_in.mg T.d_p_number_in.fn.kp T.d_p_number_in.b .nil pass0 (pa_cons (pv 2) (pa_cons (pe_glob (v := .int 7) rfl T.c_MOST_FIGURES_rowtext ⟨_, rfl⟩) pa_nil))) (pa_cons (pe_call (ok_p_number_in T) (hr.mono (by decide)) (by rfl) T.d_p_number_in.mg T.d_p_number_in.fn.kp T.d_p_number_in.b .nil pass0 (pa_cons (pv 3) (pa_cons (pe_glob (v := .int 7) rfl T.c_MOST_FIGURES_rowtext ⟨_, rfl⟩) pa_nil))) (pa_cons (pe_call (ok_p_frac_or_none T) hr (by rfl) T.d_p_frac_or_none.mg T.d_p_frac_or_none.fn.kp T.d_p_frac_or_none.b .nil pass0 (pa_cons (pv 4) pa_nil)) pa_nil))))))) (pm_cons rfl sc_p__thing_in.nd (.cons 1 rfl (by first | exact Or.inl rfl | exact Or.inr rfl) (by first | exact Or.inr rfl | exact Or.inl rfl) (.cons 2 rfl (by first | exact Or.inl rfl | exact Or.inr rfl) (by first | exact Or.inr rfl | exact Or.inl rfl) (.cons 5 rfl (by first | exact Or.inl rfl | exact Or.inr rfl) (by first | exact Or.inr rfl | exact Or.inl rfl) .nil))) (pss_one (ps_ret (pe_tupI (pa_cons (pv 1) (pa_cons (pe_call (ok_p_number_in T) (hr.mono (by decide)) (by rfl) T.d_p_number_in.mg T.d_p_number_in.fn.kp T.d_p_number_in.b .nil pass0 (pa_cons (pv 2) (pa_cons (pe_glob (v := .int 7) rfl T.c_MOST_FIGURES_rowtext ⟨_, rfl⟩) pa_nil))) (pa_cons (pe_call (ok_p_frac_or_none T) hr (by rfl) T.d_p_frac_or_none.mg T.d_p_frac_or_none.fn.kp T.d_p_frac_or_none.b .nil pass0 (pa_cons (pv 5) pa_nil)) pa_nil)))))) pm_nil)))
      (pss_one (ps_ret (pe_tupI pa_nil)))), ?_⟩
    by_cases c1 : ∃ vs, ws = ("kettle" : Str) :: vs ∧ vs.length = 4
    · obtain ⟨vs, rfl, l4⟩ := c1
      obtain ⟨n, r, f, m, rfl⟩ := len4 l4
      refine ⟨_, rfl, wl, _, rfl, hl, .inl ⟨_, rfl, rfl, ?_⟩⟩
      refine ⟨_, rfl, _, rfl, r, rfl, h9 r (by simp), fun Ha sa => ⟨_, rfl, f, rfl, h9 f (by simp), fun Hb sb => ⟨_, rfl, m, rfl, h9 m (by simp), fun v Hc sc pm => ⟨rfl, fun c Hd sd nd hd => ?_⟩⟩⟩⟩
      refine q (.ref c) Hd (sa.trans (sb.trans (sc.trans sd))) ?_
      rw [thingP_k]
      exact ⟨c, _, rfl, SqT.of hd, .cons ⟨rfl, Nat.le_trans (h9 n (by simp)) (by decide)⟩ (.cons (pt_num r) (.cons (pt_num f) (.cons (pm.tk (.same sd)) .nil))), by show 4 ≤ 1000; decide⟩
    have n1 : ∀ vs, ws = ("kettle" : Str) :: vs → vs.length ≠ 4 := fun vs e l => c1 ⟨vs, e, l⟩
    by_cases c2 : ∃ vs, ws = ("mould" : Str) :: vs ∧ vs.length = 3
    · obtain ⟨vs, rfl, l3⟩ := c2
      obtain ⟨n, r, m, rfl⟩ := len3 l3
      refine ⟨_, rfl, wl, _, rfl, hl, .inr ⟨n1, .inl ⟨_, rfl, rfl, ?_⟩⟩⟩
      refine ⟨_, rfl, _, rfl, r, rfl, h9 r (by simp), fun Ha sa => ⟨_, rfl, m, rfl, h9 m (by simp), fun v Hc sc pm => ⟨rfl, fun c Hd sd nd hd => ?_⟩⟩⟩
      refine q (.ref c) Hd (sa.trans (sc.trans sd)) ?_
      rw [thingP_m]
      exact ⟨c, _, rfl, SqT.of hd, .cons ⟨rfl, Nat.le_trans (h9 n (by simp)) (by decide)⟩ (.cons (pt_num r) (.cons (pm.tk (.same sd)) .nil)), by show 3 ≤ 1000; decide⟩
    have n2 : ∀ vs, ws = ("mould" : Str) :: vs → vs.length ≠ 3 := fun vs e l => c2 ⟨vs, e, l⟩
    refine ⟨_, rfl, wl, _, rfl, hl, .inr ⟨n1, .inr ⟨n2, rfl, fun a H1 s1 _ h1 => q (.ref a) H1 s1 ?_⟩⟩⟩
    rw [thingP_no n1 n2]
    exact ⟨a, [], rfl, SqT.of h1, .nil, Nat.zero_le _⟩

end
end KR
namespace KR
open PySem PySem.Spec PyProof.Rows L2
section
variable {P : Program} {w : World} {K : PySem.W.Frag} {mg : Str → Option Value} {base : Heap}
/-- whether a thing can stand behind these -/
def standB (ps : List Pt) (kss mss : List (List Pt)) : Bool := (if kettleB ps = true then mss.isEmpty && decide (kss.length < 8) else mouldB ps && decide (mss.length < 40)) && !decide (nmO ps ∈ (kss ++ mss).map nmO)
def sp_p__can_stand (K : PySem.W.Frag) (P : Addr) : Sp := fun vs H Q _ => ∃ (v : V) (kl ml : Addr) (ks ms : List V) (ps : List Pt) (kss mss : List (List Pt)), vs = [v, .ref kl, .ref ml] ∧ ThAt K H v ps ∧ H kl = some (.lst ks) ∧ ThsAt K H ks kss ∧ H ml = some (.lst ms) ∧ ThsAt K H ms mss ∧ (∀ qs ∈ kss, kettleB qs = true) ∧ (∀ qs ∈ mss, mouldB qs = true) ∧ kss.length ≤ 8 ∧ mss.length ≤ 40 ∧ GxR.TabG H P ∧ ∀ H', Sm H H' → Q (.bl (standB ps kss mss)) H'
theorem flat_strs (l : List Str) : (l.map V.str).all flatV = true := by
  rw [List.all_eq_true]
  intro v hv
  obtain ⟨y, _, rfl⟩ := List.mem_map.mp hv
  rfl
theorem in_strs (x : Str) (l : List Str) : inV (.str x) (l.map V.str) = decide (x ∈ l) := by
  by_cases h : x ∈ l
  · rw [decide_eq_true h]
    unfold inV
    rw [List.any_eq_true]
    refine ⟨.str x, List.mem_map.mpr ⟨x, h, rfl⟩, ?_⟩
    unfold eqV
    simp
  · rw [decide_eq_false h]
    cases e : inV (.str x) (l.map V.str) with
    | false => rfl
    | true =>
      unfold inV at e
      simp at e
      obtain ⟨y, hy, e⟩ := e
      have e2 : y = x := by
        unfold eqV at e
        simpa using e
      rw [e2] at hy
      exact absurd hy h
theorem ok_p__can_stand (T : All K mg) (B : Tabs T base) : FnOk P w K mg base CX0 5 T.f_p__can_stand T.fd_p__can_stand ["thing", "kettles", "moulds"] (sp_p__can_stand K T.P_p_is_name) := by
  refine T.d_p__can_stand.fn.ok sc_p__can_stand (fun vs H Q E h => ?_) (fun cdv A outer s H vs Q E hr h => ?_)
  · obtain ⟨v, kl, ml, ks, ms, ps, kss, mss, rfl, _⟩ := h
    rfl
  · obtain ⟨v, kl, ml, ks, ms, ps, kss, mss, rfl, hv, hk, AK, hm, AM, aK, aM, k8, m40, hP, q⟩ := h
    refine ⟨_, (pss_cons (ps_if (pt_val (pe_call (ok_p_is_kettle T B) hr (by rfl) T.d_p_is_kettle.mg T.d_p_is_kettle.fn.kp T.d_p_is_kettle.b .nil pass0 (pa_cons (pv 0) pa_nil))) (pss_one (ps_set (i := 3) sc_p__can_stand.nd rfl (by first | exact Or.inl rfl | exact Or.inr rfl) (pe_and (pe_notT (pv 2)) (pe_one (pe_cmpR op_lt (pe_callB (lenQ (K := K) rfl) (by rfl) T.b_len PySem.boot_len (pa_cons (pv 1) pa_nil)) (pe_glob (v := .int 8) rfl T.c_MOST_KETTLES ⟨_, rfl⟩) (nomark _)))))) (pss_one (ps_set (i := 3) sc_p__can_stand.nd rfl (by first | exact Or.inl rfl | exact Or.inr rfl) (pe_and (pe_call (ok_p_is_mould T B) hr (by rfl) T.d_p_is_mould.mg T.d_p_is_mould.fn.kp T.d_p_is_mould.b .nil pass0 (pa_cons (pv 0) pa_nil)) (pe_one (pe_cmpR op_lt (pe_callB (lenQ (K := K) rfl) (by rfl) T.b_len PySem.boot_len (pa_cons (pv 2) pa_nil)) (pe_glob (v := .int 40) rfl T.c_MOST_MOULDS ⟨_, rfl⟩) (nomark _)))))))
      (pss_one (ps_ret (pe_and (pv 3) (pe_one (pe_cmpR (notInQ (K := K) rfl) (pe_ix (ixT (K := K) rfl) (pv 0) pe_int (fun _ _ => rfl)) (pe_lc (own := [("one", 4)]) (g := gName 4) (tt := tYes) (by rfl) sc_p__can_stand.nd (pi_listK (K := K) rfl (pe_op op_catI (pv 1) (pv 2))) (blkOk_by (own := [("one", 4)]) (N := ["thing", "kettles", "moulds", "fits", "one"]) (sc := defScope s_p__can_stand) (by decide +kernel)) (fun _ _ _ _ _ => (pg_name (i := 4) sc_p__can_stand.nd rfl (by first | exact Or.inl rfl | exact Or.inr rfl))) (fun _ _ _ _ _ => pts_nil) (fun _ _ _ _ _ => (pe_ix (ixT (K := K) rfl) (pv 4) pe_int (fun _ _ => rfl)))) (by with_unfolding_all rfl))))))), ?_⟩
    have lk := AK.len
    have lm := AM.len
    have tail : ∀ (a : Addr) (x : Str) (zs : List V) (H1 : Hp) (bb : Bool), v = .ref a → SqT K H1 a (.str x :: zs) → nmO ps = x → Sm H H1 → (bb = if kettleB ps = true then mss.isEmpty && decide (kss.length < 8) else mouldB ps && decide (mss.length < 40)) → tRet (tAndV (tVar 3) (tOp (rIn K true) (tOp (rIxT K) (tVar 0) (tC (V.int 0))) (tLc (iList K (tOp rCatI (tVar 1) (tVar 2))) (gName 4) tYes (tOp (rIxT K) (tVar 4) (tC (V.int 0))) (List.map (fun x => x.snd) [(("one" : Str), 4)])))) { nx := fun _ H' => Q .non H', rt := Q } [some v, some (.ref kl), some (.ref ml), some (.bl bb), none] H1 := by
      rintro a x zs H1 bb rfl ha ex sm eb
      refine ⟨_, rfl, _, rfl, ?_⟩
      cases bb with
      | false =>
        refine iteF (q H1 sm |> fun z => ?_)
        unfold standB at z
        rw [← eb] at z
        exact z
      | true =>
      refine iteT ?_
      unfold standB at q
      rw [← eb, Bool.true_and, ex] at q
      refine ⟨_, rfl, a, _, 0, _, rfl, rfl, ha, at0, ?_⟩
      refine ⟨_, rfl, _, rfl, kl, ml, ks, ms, rfl, rfl, sm.lst hk, sm.lst hm, small (by omega), fun c Hc sc nc hc => ⟨c, rfl, ⟨_, SqL.of hc⟩, fun D hD => ?_⟩⟩
      have nm : ∀ (j : Nat) (y : V), (ks ++ ms)[j]? = some y → ∃ (x : Str) (b : Addr) (zs : List V), ((kss ++ mss).map nmO)[j]? = some x ∧ y = .ref b ∧ SqT K H b (.str x :: zs) := fun j y hy => by
        rw [List.map_append]
        by_cases lt : j < ks.length
        · rw [List.getElem?_append_left lt] at hy
          obtain ⟨qs, hq, th⟩ := AK.get hy
          obtain ⟨x, d, _, en, b, zs, e, h1⟩ := th.ket (aK qs (List.mem_of_getElem? hq))
          exact ⟨x, b, zs, by rw [List.getElem?_append_left (by rw [List.length_map, ← lk]; exact lt), List.getElem?_map, hq, ← en] <;> rfl, e, h1⟩
        · rw [List.getElem?_append_right (by omega)] at hy
          obtain ⟨qs, hq, th⟩ := AM.get hy
          obtain ⟨x, d, _, en, b, zs, e, h1⟩ := th.mou (aM qs (List.mem_of_getElem? hq))
          exact ⟨x, b, zs, by rw [List.getElem?_append_right (by rw [List.length_map]; omega), List.length_map, ← lk, List.getElem?_map, hq, ← en] <;> rfl, e, h1⟩
      refine lc_list (K := K) (a := c) (xs := ks ++ ms) (fun j H3 => Same Hc H3 ∧ H3 D = some (.lst ((((kss ++ mss).map nmO).take j).map V.str))) ⟨same_new hD, upd_same⟩ (fun j H3 _ z => SqL.of (z.1 _ _ hc)) (fun j y H3 hy z => ?_) (fun H3 z => ?_)
      · obtain ⟨s3, l3⟩ := z
        have jl := (List.getElem?_eq_some_iff.mp hy).1
        rw [List.length_append] at jl
        obtain ⟨x2, b, zs2, hx, rfl, h1⟩ := nm j y hy
        refine ⟨rfl, yesT ?_⟩
        refine ⟨_, rfl, b, _, 0, _, rfl, rfl, Same.tup (sc.trans s3) (sm.tup h1), at0, ?_⟩
        refine ⟨_, l3, by rw [List.length_map]; exact small' (by rw [List.length_take]; omega), Same.put s3 hD, ?_⟩
        rw [upd_same, take_one hx]
        exact congrArg (fun z => some (HO.lst z)) (List.map_append (f := V.str) (l₂ := [x2])).symm
      · obtain ⟨s3, l3⟩ := z
        have ln : (ks ++ ms).length = ((kss ++ mss).map nmO).length := by rw [List.length_map, List.length_append, List.length_append, lk, lm]
        rw [ln, List.take_length] at l3
        refine ⟨D, _, rfl, .inl (SqL.of l3), rfl, flat_strs _, ?_⟩
        rw [in_strs]
        exact q H3 (sm.trans ((Sm.of sc).trans (.of s3)))
    have emp : (!ms.isEmpty) = !mss.isEmpty := by
      cases ms with
      | nil => rw [List.eq_nil_of_length_eq_zero (by rw [← lm] <;> rfl : mss.length = 0)] <;> rfl
      | cons _ _ => cases mss with
        | nil => cases lm
        | cons _ _ => rfl
    have l8 : decide (((ks.length : Nat) : Int) < 8) = decide (kss.length < 8) := by
      by_cases c : kss.length < 8
      · rw [decide_eq_true c, decide_eq_true (by omega)]
      · rw [decide_eq_false c, decide_eq_false (by omega)]
    have l40 : decide (((ms.length : Nat) : Int) < 40) = decide (mss.length < 40) := by
      by_cases c : mss.length < 40
      · rw [decide_eq_true c, decide_eq_true (by omega)]
      · rw [decide_eq_false c, decide_eq_false (by omega)]
    refine ⟨_, rfl, v, ps, rfl, hv, hP, fun H1 s1 => ⟨_, rfl, ?_⟩⟩
    cases cK : kettleB ps with
    | true =>
      obtain ⟨x, d, _, en, a, zs, ev, h1⟩ := hv.ket cK
      have T0 := fun bb => tail a x zs H1 bb ev (s1.tup h1) en s1
      rw [cK, if_pos rfl] at T0
      refine iteT ?_
      refine ⟨_, rfl, !ms.isEmpty, .inl ⟨_, SqL.of (s1.lst hm), by cases ms <;> rfl⟩, _, rfl, ?_⟩
      rw [emp, Bool.not_not]
      cases e : mss.isEmpty with
      | false =>
        rw [e] at T0
        exact iteF (T0 false rfl)
      | true =>
        rw [e, Bool.true_and] at T0
        refine iteT ?_
        refine ⟨_, rfl, kl, _, rfl, .inl (SqL.of (s1.lst hk)), _, _, rfl, rfl, ?_⟩
        exact T0 _ l8
    | false =>
      refine iteF ?_
      refine ⟨_, rfl, v, ps, rfl, hv.tk (.sm s1), s1.tab _ hP, fun H2 s2 => ⟨_, rfl, ?_⟩⟩
      have s02 := s1.trans s2
      cases cM : mouldB ps with
      | true =>
        obtain ⟨x, d, _, en, a, zs, ev, h1⟩ := hv.mou cM
        have T0 := fun bb => tail a x zs H2 bb ev (s02.tup h1) en s02
        rw [cK, if_neg Bool.false_ne_true, cM, Bool.true_and] at T0
        refine iteT ?_
        refine ⟨_, rfl, ml, _, rfl, .inl (SqL.of (s02.lst hm)), _, _, rfl, rfl, ?_⟩
        exact T0 _ l40
      | false =>
        refine iteF ?_
        refine ⟨_, rfl, _, rfl, iteF ?_⟩
        have z := q H2 s02
        unfold standB at z
        rw [cK, if_neg Bool.false_ne_true, cM] at z
        exact z

end
end KR
namespace KR
open PySem PySem.Spec PyProof.Rows L2
section
variable {P : Program} {w : World} {K : PySem.W.Frag} {mg : Str → Option Value} {base : Heap}
/-- over what enumerate gives of a list that the body leaves as it is -/
theorem for_enum {K : PySem.W.Frag} {a : Addr} {xs : List V} {g : TG} {tb : TS} {D : Ends} {σ : L2.St} {H : Hp} (Pv : Nat → L2.St → Hp → Prop) (h0 : Pv 0 σ H) (hl : ∀ i σ H, i ≤ xs.length → Pv i σ H → SqL K H a xs)
    (hs : ∀ i x T σ H, xs[i]? = some x → H T = none → Pv i σ H → g (.ref T) σ (upd H T (.tup [.int (i : Nat), x])) fun σ2 H2 => tb { D with nx := Pv (i + 1), ct := Pv (i + 1), bk := D.nx } σ2 H2) (hd : ∀ σ H, Pv xs.length σ H → D.nx σ H) :
    ∃ W : Nat → Nat → L2.St → Hp → Prop, (∃ m, W 0 m σ H) ∧ ∀ i m σ H, W i m σ H →
      ((Ite K a).stop i H ∧ D.nx σ H) ∨ ((Ite K a).go i H ∧ ∃ N : L2.St → Hp → Prop, (∀ σ' H', N σ' H' → ∃ m', m' < m ∧ W (i + 1) m' σ' H') ∧ ∀ x H', (Ite K a).yld i H x H' → g x σ H' fun σ2 H2 => tb { D with nx := N, ct := N, bk := D.nx } σ2 H2) := by
  refine ⟨fun i m σ H => m = xs.length - i ∧ i ≤ xs.length ∧ Pv i σ H, ⟨xs.length, by simp, Nat.zero_le _, h0⟩, ?_⟩
  rintro i m σ H ⟨rfl, hi, p⟩
  have q := hl i σ H hi p
  by_cases hlt : i < xs.length
  · refine .inr ⟨⟨xs, xs[i], q, by simp [hlt]⟩, Pv (i + 1), fun σ' H' p' => ⟨xs.length - (i + 1), by omega, rfl, hlt, p'⟩, fun x H' y => ?_⟩
    obtain ⟨T, z, rfl, nT, rfl, e⟩ := y
    exact hs i z T σ H (e xs q) nT p
  · have e : i = xs.length := by omega
    subst e
    exact .inl ⟨⟨xs, q, Nat.le_refl _⟩, hd σ H p⟩
abbrev StP := List (List Pt) × List (List Pt)
/-- one row more -/
def stepP (st : StP) (ps : List Pt) : Option StP := if standB ps st.1 st.2 = true then some (if kettleB ps = true then (st.1 ++ [ps], st.2) else (st.1, st.2 ++ [ps])) else none
structure GoodSt (st : StP) : Prop where
  k : ∀ qs ∈ st.1, kettleB qs = true
  m : ∀ qs ∈ st.2, mouldB qs = true
  k8 : st.1.length ≤ 8
  m40 : st.2.length ≤ 40
  nd : (st.1.map nmO ++ st.2.map nmO).Nodup
theorem good_nil : GoodSt ([], []) := ⟨nofun, nofun, by decide, by decide, .nil⟩
theorem nd_mid {a b : List Str} {x : Str} (h : (a ++ b).Nodup) (n : x ∉ a ++ b) : ((a ++ [x]) ++ b).Nodup := by
  rw [List.append_assoc]
  exact (List.perm_middle.nodup_iff (l₁ := a ++ x :: b)).mpr (List.nodup_cons.mpr ⟨n, h⟩)
theorem GoodSt.step {st st2 : StP} {ps : List Pt} (h : GoodSt st) (e : stepP st ps = some st2) : GoodSt st2 := by
  unfold stepP at e
  by_cases c : standB ps st.1 st.2 = true
  · rw [if_pos c] at e
    unfold standB at c
    obtain ⟨c1, c2⟩ := Bool.and_eq_true_iff.mp c
    have nin : nmO ps ∉ (st.1 ++ st.2).map nmO := of_decide_eq_false (by cases z : decide (nmO ps ∈ (st.1 ++ st.2).map nmO) with
      | false => rfl
      | true => rw [z] at c2; cases c2)
    rw [List.map_append] at nin
    by_cases k : kettleB ps = true
    · rw [if_pos k] at e c1
      obtain ⟨d1, d2⟩ := Bool.and_eq_true_iff.mp c1
      cases e
      refine ⟨fun qs hq => (List.mem_append.mp hq).elim (h.k qs) fun z => by rw [List.mem_singleton.mp z]; exact k, h.m, ?_, h.m40, ?_⟩
      · show (st.1 ++ [ps]).length ≤ 8
        rw [List.length_append]
        exact of_decide_eq_true d2
      · show ((st.1 ++ [ps]).map nmO ++ st.2.map nmO).Nodup
        rw [List.map_append]
        exact nd_mid h.nd nin
    · rw [if_neg k] at e c1
      obtain ⟨d1, d2⟩ := Bool.and_eq_true_iff.mp c1
      cases e
      refine ⟨h.k, fun qs hq => (List.mem_append.mp hq).elim (h.m qs) fun z => by rw [List.mem_singleton.mp z]; exact d1, h.k8, ?_, ?_⟩
      · show (st.2 ++ [ps]).length ≤ 40
        rw [List.length_append]
        exact of_decide_eq_true d2
      · show (st.1.map nmO ++ (st.2 ++ [ps]).map nmO).Nodup
        rw [List.map_append, ← List.append_assoc]
        have z := nd_mid (a := st.1.map nmO ++ st.2.map nmO) (b := []) (x := nmO ps) (by rw [List.append_nil]; exact h.nd) (by rw [List.append_nil]; exact nin)
        rw [List.append_nil] at z
        exact z
  · rw [if_neg c] at e
    cases e
/-- what rows write: the kettles and moulds, or the number of the row at fault -/
def goP : Nat → StP → List (List Pt) → Nat ⊕ StP
  | n, st, [] => if st.1 = [] then .inl n else .inr st
  | n, st, ps :: r => match stepP st ps with
    | none => .inl n
    | some st2 => goP (n + 1) st2 r
def lineP (l : Str) : List Pt := thingP (Txt.split l " ")
def readP (x : Str) : Nat ⊕ StP := goP 0 ([], []) ((Txt.split x "\n").map lineP)
theorem goP_none {n : Nat} {st : StP} {ps : List Pt} {r : List (List Pt)} (h : stepP st ps = none) : goP n st (ps :: r) = .inl n := by
  unfold goP
  rw [h]
theorem goP_some {n : Nat} {st st2 : StP} {ps : List Pt} {r : List (List Pt)} (h : stepP st ps = some st2) : goP n st (ps :: r) = goP (n + 1) st2 r := by
  rw [goP, h]
theorem goP_good : ∀ (l : List (List Pt)) (n : Nat) (st st2 : StP), GoodSt st → goP n st l = .inr st2 → GoodSt st2 ∧ st2.1 ≠ []
  | [], n, st, st2, g, e => by
    unfold goP at e
    by_cases c : st.1 = []
    · rw [if_pos c] at e
      cases e
    · rw [if_neg c] at e
      cases e
      exact ⟨g, c⟩
  | ps :: r, n, st, st2, g, e => by
    cases h : stepP st ps with
    | none =>
      rw [goP_none h] at e
      cases e
    | some st3 =>
      rw [goP_some h] at e
      exact goP_good r (n + 1) st3 st2 (g.step h) e
theorem goP_le : ∀ (l : List (List Pt)) (n m : Nat) (st : StP), goP n st l = .inl m → m ≤ n + l.length
  | [], n, m, st, e => by
    unfold goP at e
    by_cases c : st.1 = []
    · rw [if_pos c] at e
      cases e
      exact Nat.le_refl _
    · rw [if_neg c] at e
      cases e
  | ps :: r, n, m, st, e => by
    cases h : stepP st ps with
    | none =>
      rw [goP_none h] at e
      cases e
      omega
    | some st3 =>
      rw [goP_some h] at e
      have := goP_le r (n + 1) m st3 e
      rw [List.length_cons]
      omega
theorem lines_le {x l : Str} (h : l ∈ Txt.split x "\n") : l.length ≤ x.length := (split_at feed_at (by decide) x).2.2.2.1 l h
theorem words_le {l w : Str} (h : w ∈ Txt.split l " ") : w.length ≤ l.length := (split_at blank_at (by decide) l).2.2.2.1 w h
def sp_p_row_from (K : PySem.W.Frag) (C CB : Addr) (Ps : List Addr) : Sp := fun vs H Q E => ∃ (x : Str), vs = [.str x] ∧ x.length ≤ 50000 ∧ Tbs Ps H ∧
  (∀ n, readP x = .inl n → ∀ d H', Sm H H' → H' d = some (.xd (wh "BadRow" (.int ((n : Nat) : Int)))) → E (.ref CB) (some d) H') ∧
  (∀ kss mss, readP x = .inr (kss, mss) → ∀ (y dx k m : Addr) (ks ms : List V) (H' : Hp), Sm H H' → H' y = some (.ins C dx (rf k m)) → SqT K H' k ks → ThsAt K H' ks kss → SqT K H' m ms → ThsAt K H' ms mss → Q (.ref y) H')
theorem ok_p_row_from (T : All K mg) (B : Tabs T base) : FnOk P w K mg base (L2.CX P w) 9 T.f_p_row_from T.fd_p_row_from ["text"] (sp_p_row_from K T.C_Row T.C_BadRow T.Ps) := by
  refine T.d_p_row_from.fn.okX sc_p_row_from (fun vs H Q E h => ?_) (fun cdv A outer s H vs Q E hr h => ?_)
  · obtain ⟨x, rfl, _⟩ := h
    rfl
  · obtain ⟨tx, rfl, ltx, hT, qB, qG⟩ := h
    refine ⟨_, (pss_cons (ps_set (i := 1) sc_p_row_from.nd rfl (by first | exact Or.inl rfl | exact Or.inr rfl) (pe_split (pv 0) pe_str))
      (pss_cons (ps_set (i := 2) sc_p_row_from.nd rfl (by first | exact Or.inl rfl | exact Or.inr rfl) (pe_lstI pa_nil))
      (pss_cons (ps_set (i := 3) sc_p_row_from.nd rfl (by first | exact Or.inl rfl | exact Or.inr rfl) (pe_lstI pa_nil))
      (pss_cons (ps_for PassesOwn.leaving rfl (pi_enumK (K := K) rfl (by rfl) T.b_enumerate (pa_cons (pv 1) pa_nil)) (pg_tupK (K := K) rfl rfl (pgs_cons (pg_name (i := 4) sc_p_row_from.nd rfl (by first | exact Or.inl rfl | exact Or.inr rfl)) (pgs_cons (pg_name (i := 5) sc_p_row_from.nd rfl (by first | exact Or.inl rfl | exact Or.inr rfl)) pgs_nil))) (pss_cons (ps_set (i := 6) sc_p_row_from.nd rfl (by first | exact Or.inl rfl | exact Or.inr rfl) (pe_call (ok_p__thing_in T) (hr.mono (by decide)) (by rfl) T.d_p__thing_in.mg T.d_p__thing_in.fn.kp T.d_p__thing_in.b .nil pass0 (pa_cons (pe_split (pv 5) pe_str) pa_nil)))
      (pss_cons (ps_if (pt_not (pt_val (pe_call (ok_p__can_stand T B) (hr.mono (by decide)) (by rfl) T.d_p__can_stand.mg T.d_p__can_stand.fn.kp T.d_p__can_stand.b .nil pass0 (pa_cons (pv 6) (pa_cons (pv 2) (pa_cons (pv 3) pa_nil)))))) (pss_one (ps_raise rfl (takes_of rfl rfl rfl rfl) (pmk_oex T.O_BadRow T.i_BadRow T.tI_BadRow (ok_init_BadRow T) (hr.mono (by decide)) T.bI_BadRow .nil pass0 rfl T.g_BadRow (by exact (pa_cons (pv 4) pa_nil))))) pss_nil)
      (pss_one (ps_if (pt_val (pe_call (ok_p_is_kettle T B) (hr.mono (by decide)) (by rfl) T.d_p_is_kettle.mg T.d_p_is_kettle.fn.kp T.d_p_is_kettle.b .nil pass0 (pa_cons (pv 6) pa_nil))) (pss_one (ps_expr (pe_bm PySem.F.plainAttrs_list PySem.F.slot_list_append PySem.F.type_list_append mt_append (pv 2) (pa_cons (pv 6) pa_nil)))) (pss_one (ps_expr (pe_bm PySem.F.plainAttrs_list PySem.F.slot_list_append PySem.F.type_list_append mt_append (pv 3) (pa_cons (pv 6) pa_nil)))))))))
      (pss_cons (ps_if (pt_not (pt_truth (pv 2) (by intro _; rfl))) (pss_one (ps_raise rfl (takes_of rfl rfl rfl rfl) (pmk_oex T.O_BadRow T.i_BadRow T.tI_BadRow (ok_init_BadRow T) (hr.mono (by decide)) T.bI_BadRow .nil pass0 rfl T.g_BadRow (by exact (pa_cons (pe_callB (lenQ (K := K) rfl) (by rfl) T.b_len PySem.boot_len (pa_cons (pv 1) pa_nil)) pa_nil))))) pss_nil)
      (pss_one (ps_ret (pe_make T.M_Row (ok_Row_init T B) hr (by rfl) T.g_Row T.b_Row_init .nil passX0 (pa_cons (pv 2) (pa_cons (pv 3) pa_nil)))))))))), ?_⟩
    obtain ⟨ls, esp⟩ : ∃ ls, Txt.split tx "\n" = ls := ⟨_, rfl⟩
    have ne := (split_at feed_at (by decide) tx).1
    have lns := (split_at feed_at (by decide) tx).2.2.2.2
    have hpl : ∀ l ∈ Txt.split tx "\n", l.length ≤ 50000 := fun l hl => Nat.le_trans (lines_le hl) ltx
    have er : readP tx = goP 0 ([], []) ((Txt.split tx "\n").map lineP) := rfl
    rw [esp] at ne lns hpl er
    have inT : T.P_p_is_name ∈ T.Ps := by simp [All.Ps]
    refine ⟨_, rfl, ⟨_, rfl⟩, _, _, rfl, rfl, rfl, small (by omega), fun ll hll => ?_⟩
    rw [esp]
    have s1 := same_new (o := .lst (ls.map V.str)) hll
    have h1 : (upd H ll (.lst (ls.map V.str))) ll = _ := upd_same
    generalize upd H ll (.lst (ls.map V.str)) = H1 at s1 h1
    refine ⟨rfl, fun kl H2 s2 n2 h2 => ⟨rfl, fun ml H3 s3 n3 h3 => ?_⟩⟩
    have old : ∀ {b : Addr} {Ha : Hp}, Same H Ha → Ha b = none → H b = none := fun {b Ha} sm nb => by
      cases e : H b with
      | none => rfl
      | some o => rw [sm _ _ e] at nb; cases nb
    have nk := old s1 n2
    have nm := old (s1.trans s2) n3
    have lkl : ll ≠ kl := ne_of_none h1 n2
    have lml : ll ≠ ml := ne_of_none (s2 _ _ h1) n3
    have kml : kl ≠ ml := ne_of_none h2 n3
    have s13 := s1.trans (s2.trans s3)
    have hl3 := s3 _ _ (s2 _ _ h1)
    have tkU : ∀ {Ha : Hp} {D : Addr} {xs ys : List V}, Ha D = some (.lst xs) → TK K Ha (upd Ha D (.lst ys)) := fun h => TK.upd h (fun xs z => by cases z) (fun b y z => by cases z)
    refine ⟨_, rfl, ll, _, rfl, SqL.of hl3, ?_⟩
    refine for_enum (K := K) (a := ll) (xs := ls.map V.str) (fun i σ H' => ∃ (v4 v5 v6 : Option V) (ks ms : List V) (st : StP), σ = [some (.str tx), some (.ref ll), some (.ref kl), some (.ref ml), v4, v5, v6] ∧ Sm H H' ∧ H' ll = some (.lst (ls.map V.str)) ∧ H' kl = some (.lst ks) ∧ H' ml = some (.lst ms) ∧ ThsAt K H' ks st.1 ∧ ThsAt K H' ms st.2 ∧ GoodSt st ∧ readP tx = goP i st ((ls.map lineP).drop i))
      ⟨_, _, _, [], [], ([], []), rfl, .of s13, hl3, s3 _ _ h2, h3, .nil, .nil, good_nil, er⟩ (fun i σ H' _ ⟨_, _, _, _, _, _, _, _, z, _⟩ => SqL.of z) ?_ ?_
    · rintro i v tp σ Ha hv ntp ⟨v4, v5, v6, ks, ms, st, rfl, sm, hll, hkl, hml, AK, AM, G, er⟩
      obtain ⟨b, hb, rfl⟩ : ∃ b, ls[i]? = some b ∧ v = V.str b := by
        rw [List.getElem?_map] at hv
        cases e : ls[i]? with
        | none => rw [e] at hv; cases hv
        | some b => rw [e] at hv; exact ⟨b, rfl, (Option.some.inj hv).symm⟩
      have lb := hpl b (List.mem_of_getElem? hb)
      obtain ⟨li, ei⟩ := List.getElem?_eq_some_iff.mp hb
      rw [List.drop_eq_getElem_cons (by rw [List.length_map]; exact li), List.getElem_map, ei] at er
      have st' := same_new (o := .tup [.int (i : Nat), V.str b]) ntp
      have ht : (upd Ha tp (.tup [.int (i : Nat), V.str b])) tp = _ := upd_same
      generalize upd Ha tp (.tup [.int (i : Nat), V.str b]) = Hb at st' ht
      refine ⟨tp, _, rfl, SqT.of ht, rfl, _, _, rfl, _, _, rfl, rfl, ?_⟩
      refine ⟨_, rfl, ⟨_, rfl⟩, _, _, rfl, rfl, rfl, small (by omega), fun wl hwl => ?_⟩
      have sw := same_new (o := .lst ((Txt.split b " ").map V.str)) hwl
      have hw : (upd Hb wl (.lst ((Txt.split b " ").map V.str))) wl = _ := upd_same
      generalize upd Hb wl (.lst ((Txt.split b " ").map V.str)) = Hc at sw hw
      have sac := st'.trans sw
      refine ⟨wl, _, rfl, SqL.of hw, fun w hw => Nat.le_trans (words_le hw) lb, fun v Hd sd th => ?_⟩
      have sad := sac.trans sd
      have smd := sm.trans (.of sad)
      refine ⟨_, rfl, _, rfl, _, rfl, v, kl, ml, ks, ms, lineP b, st.1, st.2, rfl, th, sad _ _ hkl, AK.tk (.same sad), sad _ _ hml, AM.tk (.same sad), G.k, G.m, G.k8, G.m40, smd.tab _ (hT _ inT), fun He se => ⟨_, rfl, ?_⟩⟩
      have lks := AK.len
      have lms := AM.len
      have k8 := G.k8
      have m40 := G.m40
      have sme := smd.trans se
      cases cS : standB (lineP b) st.1 st.2 with
      | false =>
        rw [goP_none (show stepP st (lineP b) = none by unfold stepP; rw [cS, if_neg Bool.false_ne_true])] at er
        refine iteT ?_
        refine ⟨_, rfl, by show 1 ≤ 1000; decide, fun a ha => ⟨a, .int (i : Nat), rfl, upd_same, fun d hd hne => ?_⟩⟩
        rw [upd_ne hne] at hd
        refine ⟨rfl, d, (wh "BadRow" (.int (i : Nat))), upd_same, by rw [upd_ne hne, upd_same], hd, ?_⟩
        exact qB i er d _ (sme.trans (.of (raised_keeps ha hd))) upd_same
      | true =>
        refine iteF ?_
        refine ⟨_, rfl, v, lineP b, rfl, th.tk (.sm se), sme.tab _ (hT _ inT), fun Hf sf => ⟨_, rfl, ?_⟩⟩
        have saf := (Sm.of sad).trans (se.trans sf)
        cases cK : kettleB (lineP b) with
        | true =>
          have es : stepP st (lineP b) = some (st.1 ++ [lineP b], st.2) := by unfold stepP; rw [cS, if_pos rfl, cK, if_pos rfl]
          rw [goP_some es] at er
          refine iteT ?_
          have hkf := saf.lst hkl
          refine ⟨_, rfl, .inl ⟨rfl, _, SqL.of hkf⟩, _, rfl, kl, _, _, rfl, rfl, hkf, small' (by omega), ?_⟩
          have tk := tkU (ys := ks ++ [v]) hkf
          exact ⟨_, _, _, ks ++ [v], ms, (st.1 ++ [lineP b], st.2), rfl, Sm.put (sm.trans saf) nk, by rw [upd_ne lkl]; exact saf.lst hll, upd_same, by rw [upd_ne kml.symm]; exact saf.lst hml, ((AK.tk (.sm saf)).cat (.cons (th.tk (.sm (se.trans sf))) .nil)).tk tk, (AM.tk (.sm saf)).tk tk, G.step es, er⟩
        | false =>
          have es : stepP st (lineP b) = some (st.1, st.2 ++ [lineP b]) := by unfold stepP; rw [cS, if_pos rfl, cK, if_neg Bool.false_ne_true]
          rw [goP_some es] at er
          refine iteF ?_
          have hmf := saf.lst hml
          refine ⟨_, rfl, .inl ⟨rfl, _, SqL.of hmf⟩, _, rfl, ml, _, _, rfl, rfl, hmf, small' (by omega), ?_⟩
          have tk := tkU (ys := ms ++ [v]) hmf
          exact ⟨_, _, _, ks, ms ++ [v], (st.1, st.2 ++ [lineP b]), rfl, Sm.put (sm.trans saf) nm, by rw [upd_ne lml]; exact saf.lst hll, by rw [upd_ne kml]; exact saf.lst hkl, upd_same, (AK.tk (.sm saf)).tk tk, ((AM.tk (.sm saf)).cat (.cons (th.tk (.sm (se.trans sf))) .nil)).tk tk, G.step es, er⟩
    · rintro σ Ha ⟨v4, v5, v6, ks, ms, ⟨kss, mss⟩, rfl, sm, hll, hkl, hml, AK, AM, G, er⟩
      rw [List.length_map, List.drop_of_length_le (by rw [List.length_map]; exact Nat.le_refl _)] at er
      have lks := AK.len
      have lms := AM.len
      cases kss with
      | nil =>
        obtain rfl : ks = [] := List.eq_nil_of_length_eq_zero lks
        refine ⟨_, rfl, false, .inl ⟨[], SqL.of hkl, rfl⟩, iteT ?_⟩
        refine ⟨_, rfl, ll, _, rfl, .inl (SqL.of hll), ?_⟩
        refine ⟨by show 1 ≤ 1000; decide, fun a ha => ⟨a, .int ((ls.map V.str).length : Nat), rfl, upd_same, fun d hd hne => ?_⟩⟩
        rw [upd_ne hne] at hd
        refine ⟨rfl, d, (wh "BadRow" (.int ((ls.map V.str).length : Nat))), upd_same, by rw [upd_ne hne, upd_same], hd, ?_⟩
        exact qB _ er d _ (sm.trans (.of (raised_keeps ha hd))) (by rw [upd_same, List.length_map])
      | cons q qs =>
        have G1 := G.k
        have G2 := G.m
        have k8 := G.k8
        have m40 := G.m40
        refine ⟨_, rfl, true, .inl ⟨ks, SqL.of hkl, ?_⟩, iteF ?_⟩
        · cases ks with
          | nil => cases lks
          | cons _ _ => rfl
        refine ⟨_, rfl, _, rfl, fun x dx nx nd ne2 => ?_⟩
        have sb := make_same (C := T.C_Row) nx nd
        have S2 := sm.trans (.of sb)
        have cK : canK (q :: qs) = true := by
          unfold canK
          rw [decide_eq_true (by simp : 1 ≤ (q :: qs).length), decide_eq_true k8, List.all_eq_true.mpr G1, decide_eq_true (List.nodup_append.mp G.nd).1] <;> rfl
        have cM : canM mss (q :: qs) = true := by
          unfold canM
          rw [decide_eq_true m40, List.all_eq_true.mpr G2, decide_eq_true G.nd] <;> rfl
        refine ⟨x, dx, kl, ml, ms, ks, mss, q :: qs, rfl, upd_same, .inl (sb.seq (SqL.of hkl)), AK.tk (.same sb), .inl (sb.seq (SqL.of hml)), AM.tk (.same sb), Nat.le_trans k8 (by decide), Nat.le_trans m40 (by decide), hT.sm S2, fun z => (by rw [cK] at z; cases z), fun _ z => (by rw [cM] at z; cases z), fun _ _ k3 m3 Hz r1 rk rm f1 => ⟨rfl, ?_⟩⟩
        have sz := make_sm nx nd f1
        exact qG _ _ er x dx k3 m3 ks ms Hz (sm.trans sz) r1 rk (AK.tk (.sm sz)) rm (AM.tk (.sm sz))

end
end KR
namespace KR
open PySem PySem.Spec PyProof.Rows L2
section
variable {P : Program} {w : World} {K : PySem.W.Frag} {mg : Str → Option Value} {base : Heap}
theorem in_lets {z : Nat} : (!(Builtin.Str.occurrences ("abcdefghijklmnopqrstuvwxyz" : Str) ⟨#[z]⟩ 0 ("abcdefghijklmnopqrstuvwxyz" : Str).length 1).isEmpty) = decide (97 ≤ z ∧ z ≤ 122) := by
  rw [PySem.StrLaws.found_one, decide_eq_decide]
  have e : ("abcdefghijklmnopqrstuvwxyz" : Str).cps.toList = (List.range 26).map (97 + ·) := by decide +kernel
  rw [e, List.mem_map]
  constructor
  · rintro ⟨i, hi, rfl⟩
    have := List.mem_range.mp hi
    omega
  · rintro ⟨h1, h2⟩
    exact ⟨z - 97, List.mem_range.mpr (by omega), by omega⟩
def sp_l_is_name (K : PySem.W.Frag) : Sp := fun vs H Q _ => ∃ (v : V) (p : Pt), vs = [v] ∧ PtAt K H v p ∧ ∀ H', Same H H' → Q (.bl (nameB p)) H'
theorem ok_l_is_name (T : All K mg) : FnOk P w K mg base CX0 1 T.f_l_is_name T.fd_l_is_name ["_law_thing"] (sp_l_is_name K) := by
  refine T.d_l_is_name.fn.ok sc_l_is_name (fun vs H Q E h => ?_) (fun cdv A outer s H vs Q E hr h => ?_)
  · obtain ⟨v, p, rfl, _⟩ := h
    rfl
  · obtain ⟨v, p, rfl, hp, q⟩ := h
    refine ⟨_, (pss_cons (ps_if (PW.pt (pw_or (pt_not (pt_val (pe_callB (isiK (K := K) rfl) (by rfl) T.b_isinstance (by decide +kernel) (pa_cons (pv 0) (pa_cons (pe_bltn (v := .ty "str") (by rfl) T.b_str (by decide +kernel) rfl) pa_nil))))) (pw_or1 (pt_not (pt_chain op_le op_le pe_int (pe_callB call_len_str (by rfl) T.b_len PySem.boot_len (pa_cons (pv 0) pa_nil)) pe_int))))) (pss_one (ps_ret pe_bl)) pss_nil)
      (pss_one (ps_ret (pe_callB (allK (K := K) rfl rfl) (by rfl) T.b_all (by decide +kernel) (pa_cons (pe_lc (own := [("_law_sign", 1)]) (g := gName 1) (tt := tYes) (by rfl) sc_l_is_name.nd (pi_str (pv 0)) (blkOk_by (own := [("_law_sign", 1)]) (N := ["_law_thing", "_law_sign"]) (sc := defScope s_l_is_name) (by decide +kernel)) (fun _ _ _ _ _ => (pg_name (i := 1) sc_l_is_name.nd rfl (by first | exact Or.inl rfl | exact Or.inr rfl))) (fun _ _ _ _ _ => pts_nil) (fun _ _ _ _ _ => (pe_cmpR op_in_str (pv 1) pe_str (by rfl)))) pa_nil))))), ?_⟩
    have D := hp.dj (q := 0)
    obtain ⟨t, k⟩ := D.kinds
    refine ⟨_, rfl, _, _, _, _, _, rfl, .ty _, k.ty, kit_ty k.str, _, rfl, ?_⟩
    cases p with
    | i n => exact iteT (q H (Same.refl _))
    | o => exact iteT (q H (Same.refl _))
    | f t b => exact iteT (q H (Same.refl _))
    | s x =>
    obtain ⟨rfl, lx⟩ : v = .str x ∧ _ := hp
    refine iteF ?_
    refine ⟨_, rfl, _, rfl, small (by omega), _, _, rfl, rfl, _, rfl, ?_⟩
    by_cases c1 : 1 ≤ x.length
    case' neg =>
      refine ite_bF (decide_eq_false (by omega)) ?_
      have e : nameB (.s x) = false := decide_eq_false fun z => c1 z.1
      rw [e] at q
      exact ⟨_, rfl, iteT (q H (Same.refl _))⟩
    refine ite_bT (decide_eq_true (by omega)) ?_
    refine ⟨_, _, rfl, rfl, _, rfl, ?_⟩
    by_cases c8 : x.length ≤ 8
    case' neg =>
      rw [decide_eq_false (show ¬ ((x.length : Nat) : Int) ≤ 8 by omega)]
      have e : nameB (.s x) = false := decide_eq_false fun z => c8 z.2.1
      rw [e] at q
      exact iteT (q H (Same.refl _))
    rw [decide_eq_true (show ((x.length : Nat) : Int) ≤ 8 by omega)]
    refine iteF ?_
    refine ⟨_, rfl, x, rfl, fun D hD => ?_⟩
    have tlx : (TL.tl x).length = x.cps.size := (TL.len_tl x).symm
    have cx : x.cps.size = x.length := rfl
    refine lc_it (walk_str (z := x)) (fun i H' => Same H H' ∧ H' D = some (.lst ((((TL.tl x).take i).map fun c => decide (97 ≤ c ∧ c ≤ 122)).map V.bl))) ⟨same_new hD, upd_same⟩ (fun _ _ _ _ => trivial) (fun i y H' H2 hi w hy => ?_) (fun H' w => ?_)
    · obtain ⟨sm, hl⟩ := w
      obtain ⟨rfl, c, hc, rfl⟩ := hy
      have hc2 : (TL.tl x)[i]? = some c := by
        rw [← Array.getElem?_toList] at hc
        exact hc
      refine ⟨rfl, yesT ?_⟩
      refine ⟨_, rfl, _, _, rfl, rfl, ?_⟩
      refine ⟨_, hl, by rw [List.length_map, List.length_map]; exact small' (by rw [List.length_take]; omega), Same.put sm hD, ?_⟩
      rw [upd_same, in_lets, take_one hc2, List.map_append, List.map_append] <;> rfl
    · obtain ⟨sm, hl⟩ := w
      rw [List.take_of_length_le (by omega)] at hl
      refine ⟨D, _, rfl, SqL.of hl, ?_⟩
      have e : nameB (.s x) = (((TL.tl x).map fun c => decide (97 ≤ c ∧ c ≤ 122)).all id) := by
        unfold nameB
        cases h : ((TL.tl x).map fun c => decide (97 ≤ c ∧ c ≤ 122)).all id with
        | true =>
          refine decide_eq_true ⟨c1, c8, fun c hc => ?_⟩
          have := List.all_eq_true.mp h (decide (97 ≤ c ∧ c ≤ 122)) (List.mem_map.mpr ⟨c, hc, rfl⟩)
          exact of_decide_eq_true this
        | false =>
          refine decide_eq_false fun z => ?_
          have : ((TL.tl x).map fun c => decide (97 ≤ c ∧ c ≤ 122)).all id = true := List.all_eq_true.mpr fun b hb => by
            obtain ⟨c, hc, rfl⟩ := List.mem_map.mp hb
            exact decide_eq_true (z.2.2 c hc)
          rw [this] at h
          cases h
      rw [← e]
      exact q H' sm

end
end KR
namespace KR
open PySem PySem.Spec PyProof.Rows L2
section
variable {P : Program} {w : World} {K : PySem.W.Frag} {mg : Str → Option Value} {base : Heap}
def sp_l_is_number (K : PySem.W.Frag) : Sp := fun vs H Q _ => ∃ (p : Addr) (n : Nat) (v : V) (d : PyData), vs = [v] ∧ Dj K p H n v d ∧ Q (.bl (isNumD d)) H
theorem ok_l_is_number (T : All K mg) : FnOk P w K mg base CX0 1 T.f_l_is_number T.fd_l_is_number ["_law_thing"] (sp_l_is_number K) := by
  refine T.d_l_is_number.fn.ok sc_l_is_number (fun vs H Q E h => ?_) (fun cdv A outer s H vs Q E hr h => ?_)
  · obtain ⟨p, n, v, d, rfl, _⟩ := h
    rfl
  · obtain ⟨p, n, v, d, rfl, hd, q⟩ := h
    refine ⟨_, (pss_one (ps_ret (pe_and (pe_callB (isiK (K := K) rfl) (by rfl) T.b_isinstance (by decide +kernel) (pa_cons (pv 0) (pa_cons (pe_bltn (v := .ty "int") (by rfl) T.b_int (by decide +kernel) rfl) pa_nil))) (pe_one (pe_not (pe_callB (isiK (K := K) rfl) (by rfl) T.b_isinstance (by decide +kernel) (pa_cons (pv 0) (pa_cons (pe_bltn (v := .ty "bool") (by rfl) T.b_bool (by decide +kernel) rfl) pa_nil)))))))), ?_⟩
    obtain ⟨t, k⟩ := hd.kinds
    refine ⟨_, rfl, _, _, _, _, _, rfl, .ty _, k.ty, kit_ty k.int, _, rfl, ?_⟩
    unfold isNumD at q
    cases c : isIntD d with
    | false =>
      rw [c] at q
      exact iteF q
    | true =>
      rw [c] at q
      refine iteT ?_
      refine ⟨_, rfl, _, _, _, _, _, rfl, .ty _, k.ty, kit_ty k.bool, _, rfl, ?_⟩
      exact q

end
end KR
namespace KR
open PySem PySem.Spec PyProof.Rows L2
section
variable {P : Program} {w : World} {K : PySem.W.Frag} {mg : Str → Option Value} {base : Heap}
def fracP : Pt → Bool
  | .f t b => fracB t b
  | _ => false
def sp_l_is_frac (K : PySem.W.Frag) : Sp := fun vs H Q _ => ∃ (v : V) (p : Pt), vs = [v] ∧ PtAt K H v p ∧ ∀ H', Same H H' → Q (.bl (fracP p)) H'
theorem low_self {t b : Int} (hb : 0 < b) : decide ((low t b).1 = t ∧ (low t b).2 = b) = decide (Nat.gcd t.natAbs b.natAbs = 1) := by
  rw [decide_eq_decide]
  constructor
  · rintro ⟨h1, h2⟩
    have k := (low_facts t b (by omega)).1.cop
    rw [h1, h2] at k
    exact k
  · intro g
    have k := low_id (t := t) (b := b) ⟨hb, g⟩
    rw [k]
    exact ⟨rfl, rfl⟩
theorem ok_l_is_frac (T : All K mg) : FnOk P w K mg base CX0 2 T.f_l_is_frac T.fd_l_is_frac ["_law_thing"] (sp_l_is_frac K) := by
  refine T.d_l_is_frac.fn.ok sc_l_is_frac (fun vs H Q E h => ?_) (fun cdv A outer s H vs Q E hr h => ?_)
  · obtain ⟨v, p, rfl, _⟩ := h
    rfl
  · obtain ⟨v, p, rfl, hp, q⟩ := h
    refine ⟨_, (pss_cons (ps_if (PW.pt (pw_or (pt_not (pt_val (pe_callB (isiK (K := K) rfl) (by rfl) T.b_isinstance (by decide +kernel) (pa_cons (pv 0) (pa_cons (pe_bltn (v := .ty "tuple") (by rfl) T.b_tuple (by decide +kernel) rfl) pa_nil))))) (pw_or (pt_cmpR op_ne (pe_callB (lenQ (K := K) rfl) (by rfl) T.b_len PySem.boot_len (pa_cons (pv 0) pa_nil)) pe_int (nomark _)) (pw_or1 (pt_not (pt_val (pe_callB (allK (K := K) rfl rfl) (by rfl) T.b_all (by decide +kernel) (pa_cons (pe_lc (own := [("_law_part", 1)]) (g := gName 1) (tt := tYes) (by rfl) sc_l_is_frac.nd (pi_tupK (K := K) rfl (pv 0)) (blkOk_by (own := [("_law_part", 1)]) (N := ["_law_thing", "_law_part"]) (sc := defScope s_l_is_frac) (by decide +kernel)) (fun _ _ _ _ _ => (pg_name (i := 1) sc_l_is_frac.nd rfl (by first | exact Or.inl rfl | exact Or.inr rfl))) (fun _ _ _ _ _ => pts_nil) (fun _ _ _ _ _ => (pe_call (ok_l_is_number T) hr (by rfl) T.d_l_is_number.mg T.d_l_is_number.fn.kp T.d_l_is_number.b .nil pass0 (pa_cons (pv 1) pa_nil)))) pa_nil)))))))) (pss_one (ps_ret pe_bl)) pss_nil)
      (pss_one (ps_ret (pe_and (pe_cmpR op_gt (pe_ix (ixT (K := K) rfl) (pv 0) pe_int (fun _ _ => rfl)) pe_int (nomark _)) (pe_one (pe_cmpR (eqDK (K := K) rfl hr.units) (pe_call (ok_l_low T) hr (by rfl) T.d_l_low.mg T.d_l_low.fn.kp T.d_l_low.b .nil pass0 (pa_cons (pe_ix (ixT (K := K) rfl) (pv 0) pe_int (fun _ _ => rfl)) (pa_cons (pe_ix (ixT (K := K) rfl) (pv 0) pe_int (fun _ _ => rfl)) pa_nil))) (pv 0) (nomark _))))))), ?_⟩
    have D := hp.dj (q := 0)
    obtain ⟨t, k⟩ := D.kinds
    refine ⟨_, rfl, _, _, _, _, _, rfl, .ty _, k.ty, kit_ty k.tup, _, rfl, ?_⟩
    cases p with
    | i n => exact iteT (q H (Same.refl _))
    | o => exact iteT (q H (Same.refl _))
    | s x => exact iteT (q H (Same.refl _))
    | f t b =>
    obtain ⟨⟨m, rfl, hm⟩, z1, z2⟩ := hp
    refine iteF ?_
    refine ⟨_, rfl, m, _, rfl, .inr hm, rfl, _, rfl, ?_⟩
    refine ite_nF rfl ?_
    refine ⟨_, rfl, m, rfl, ⟨_, hm⟩, fun D hD => ?_⟩
    have keep : ∀ acc : List V, Same H (upd H D (.lst acc)) := fun acc => same_new hD
    refine lc_tup (K := K) (a := m) (xs := [.int t, .int b]) (fun i H' => H' = upd H D (.lst (([.bl true, .bl true] : List V).take i))) rfl (fun i H' _ e => by rw [e]; exact Same.tup (keep _) hm) ?_ ?_
    · rintro i z H' hi rfl
      obtain ⟨n, rfl, hn, ez⟩ : ∃ n : Int, z = .int n ∧ n.natAbs < 2 ^ 200 ∧ ([.bl true, .bl true] : List V).take (i + 1) = ([.bl true, .bl true] : List V).take i ++ [.bl true] := by
        match i, hi with
        | 0, hi => cases hi; exact ⟨t, rfl, z1, rfl⟩
        | 1, hi => cases hi; exact ⟨b, rfl, z2, rfl⟩
        | i + 2, hi => simp at hi
      refine ⟨rfl, yesT ?_⟩
      refine ⟨_, rfl, 0, 1, .int n, .int n, rfl, .int 0 n hn, ?_⟩
      exact ⟨_, upd_same, small' (by rw [List.length_take]; show min i 2 < 100000; omega), by rw [upd_upd, ez] <;> rfl⟩
    · rintro H' rfl
      refine ⟨D, [true, true], rfl, SqL.of upd_same, _, rfl, iteF ?_⟩
      have hm1 := Same.tup (keep [.bl true, .bl true]) hm
      refine ⟨_, rfl, m, _, 1, _, rfl, rfl, hm1, at1, _, _, rfl, rfl, _, rfl, ?_⟩
      have q2 : ∀ H', Same H H' → Q (.bl (decide (0 < b) && decide (Nat.gcd t.natAbs b.natAbs = 1))) H' := q
      by_cases pos : 0 < b
      · rw [decide_eq_true pos] at q2
        refine ite_bT (decide_eq_true pos) ?_
        refine ⟨_, rfl, m, _, 0, _, rfl, rfl, hm1, at0, _, rfl, m, _, 1, _, rfl, rfl, hm1, at1, _, _, 200, rfl, by omega, z1, z2, by decide, fun c H2 s2 n2 h2 _ => ?_⟩
        have e := rq_low (t := t) (b := b) (by omega)
        have h2' : SqT K H2 c [.int (low t b).1, .int (low t b).2] := by
          rw [e]
          exact h2
        have pr : ∀ i j : Int, SeqAt.shaped (.tuple [.int i, .int j]) = true := fun i j => rfl
        refine ⟨_, rfl, _, _, .tup h2' (.cons (.int _) (.cons (.int _) .nil)), .tup (Same.tup s2 hm1) (.cons (.int _) (.cons (.int _) .nil)), pr _ _, pr _ _, ?_⟩
        rw [eqv_pair, low_self pos]
        exact q2 H2 ((keep _).trans s2)
      · rw [decide_eq_false pos] at q2
        exact ite_bF (decide_eq_false pos) (q2 _ (keep _))

end
end KR
namespace KR
open PySem PySem.Spec PyProof.Rows L2
section
variable {P : Program} {w : World} {K : PySem.W.Frag} {mg : Str → Option Value} {base : Heap}
def sp_l_is_pot (K : PySem.W.Frag) : Sp := fun vs H Q _ => ∃ (v : V) (ps : List Pt) (n : Int), vs = [v, .int n] ∧ ThAt K H v ps ∧ ((n = 4 ∧ ∀ H', Same H H' → Q (.bl (kettleB ps)) H') ∨ (n = 3 ∧ ∀ H', Same H H' → Q (.bl (mouldB ps)) H'))
theorem markB_fr {p : Pt} (h : fracP p = false) : markB p = false ∧ dripB p = false := by
  cases p with
  | f t b =>
    have h2 : fracB t b = false := h
    show (fracB t b && _) = false ∧ (fracB t b && _) = false
    rw [h2] <;> exact ⟨rfl, rfl⟩
  | s x => exact ⟨rfl, rfl⟩
  | i n => exact ⟨rfl, rfl⟩
  | o => exact ⟨rfl, rfl⟩
theorem ok_l_is_pot (T : All K mg) : FnOk P w K mg base CX0 3 T.f_l_is_pot T.fd_l_is_pot ["_law_thing", "_law_parts"] (sp_l_is_pot K) := by
  refine T.d_l_is_pot.fn.ok sc_l_is_pot (fun vs H Q E h => ?_) (fun cdv A outer s H vs Q E hr h => ?_)
  · obtain ⟨v, ps, n, rfl, _⟩ := h
    rfl
  · obtain ⟨v, ps, n, rfl, ⟨a, us, rfl, h1, hP, l9⟩, ways⟩ := h
    refine ⟨_, (pss_cons (ps_if (PW.pt (pw_or (pt_not (pt_val (pe_callB (isiK (K := K) rfl) (by rfl) T.b_isinstance (by decide +kernel) (pa_cons (pv 0) (pa_cons (pe_bltn (v := .ty "tuple") (by rfl) T.b_tuple (by decide +kernel) rfl) pa_nil))))) (pw_or (pt_cmpR op_ne (pe_callB (lenQ (K := K) rfl) (by rfl) T.b_len PySem.boot_len (pa_cons (pv 0) pa_nil)) (pv 1) (nomark _)) (pw_or1 (pt_not (pt_val (pe_call (ok_l_is_name T) (hr.mono (by decide)) (by rfl) T.d_l_is_name.mg T.d_l_is_name.fn.kp T.d_l_is_name.b .nil pass0 (pa_cons (pe_ix (ixT (K := K) rfl) (pv 0) pe_int (fun _ _ => rfl)) pa_nil)))))))) (pss_one (ps_ret pe_bl)) pss_nil)
      (pss_cons (ps_if (PW.pt (pw_or (pt_not (pt_val (pe_call (ok_l_is_number T) (hr.mono (by decide)) (by rfl) T.d_l_is_number.mg T.d_l_is_number.fn.kp T.d_l_is_number.b .nil pass0 (pa_cons (pe_ix (ixT (K := K) rfl) (pv 0) pe_int (fun _ _ => rfl)) pa_nil)))) (pw_or (pt_not (pt_chain op_le op_le pe_int (pe_ix (ixT (K := K) rfl) (pv 0) pe_int (fun _ _ => rfl)) (pe_op op_pow pe_int pe_int))) (pw_or1 (pt_not (pt_val (pe_call (ok_l_is_frac T) hr (by rfl) T.d_l_is_frac.mg T.d_l_is_frac.fn.kp T.d_l_is_frac.b .nil pass0 (pa_cons (pe_ix (ixT (K := K) rfl) (pv 0) (pe_un un_neg pe_int) (fun _ _ => rfl)) pa_nil)))))))) (pss_one (ps_ret pe_bl)) pss_nil)
      (pss_cons (ps_asg (pe_ix (ixT (K := K) rfl) (pv 0) (pe_un un_neg pe_int) (fun _ _ => rfl)) (pg_tupK (K := K) rfl rfl (pgs_cons (pg_name (i := 2) sc_l_is_pot.nd rfl (by first | exact Or.inl rfl | exact Or.inr rfl)) (pgs_cons (pg_name (i := 3) sc_l_is_pot.nd rfl (by first | exact Or.inl rfl | exact Or.inr rfl)) pgs_nil))))
      (pss_cons (ps_if (pt_cmpR op_eq (pv 1) pe_int (nomark _)) (pss_one (ps_ret (pe_and (pe_call (ok_l_is_number T) (hr.mono (by decide)) (by rfl) T.d_l_is_number.mg T.d_l_is_number.fn.kp T.d_l_is_number.b .nil pass0 (pa_cons (pe_ix (ixT (K := K) rfl) (pv 0) pe_int (fun _ _ => rfl)) pa_nil)) (pe_and (pe_chain op_le op_le pe_int (pe_ix (ixT (K := K) rfl) (pv 0) pe_int (fun _ _ => rfl)) (pe_op op_pow pe_int pe_int)) (pe_one (pe_chain3 op_lt op_lt op_le pe_int (pv 2) (pv 3) pe_int)))))) pss_nil)
      (pss_one (ps_ret (pe_chain3 op_le op_lt op_le pe_int (pv 2) (pv 3) pe_int))))))), ?_⟩
    have el := hP.len
    refine ⟨_, rfl, _, _, _, _, _, rfl, .ty _, sqT_ty h1, kit_ty (show kitB "tuple" "tuple" = some true by decide +kernel), _, rfl, ?_⟩
    refine iteF ?_
    refine ⟨_, rfl, a, _, rfl, .inr h1, _, rfl, rfl, _, rfl, ?_⟩
    rcases ways with ⟨rfl, q⟩ | ⟨rfl, q⟩
    · by_cases n4 : ps.length = 4
      case' neg =>
        have e : kettleB ps = false := kettleB_len n4
        rw [e] at q
        exact ite_nT (by omega) (q H (Same.refl _))
      refine ite_nF (by omega) ?_
      obtain ⟨v1, v2, v3, v4, rfl⟩ := len4 (el.trans n4)
      obtain ⟨x, r, f, m, rfl⟩ := len4 n4
      have p1 := hP.at_ 0 v1 x rfl rfl
      have p2 := hP.at_ 1 v2 r rfl rfl
      have p3 := hP.at_ 2 v3 f rfl rfl
      have p4 := hP.at_ 3 v4 m rfl rfl
      have no : ∀ {G : Hp}, kettleB [x, r, f, m] = false → Same H G → Q (.bl false) G := fun {G} e s => by
        have := q G s
        rw [e] at this
        exact this
      refine ⟨_, rfl, a, _, 0, _, rfl, rfl, h1, at0, v1, x, rfl, p1, fun H1 s1 => ⟨_, rfl, ?_⟩⟩
      cases cx : nameB x with
      | false => exact iteT (no (by show (nameB x && _ && _ && _) = false; rw [cx] <;> rfl) s1)
      | true =>
      refine iteF ?_
      have h1' := Same.tup s1 h1
      refine ⟨_, rfl, a, _, 1, _, rfl, rfl, h1', at1, 0, 2, v2, r.d, rfl, (p2.tk (.same s1)).dj, _, rfl, ?_⟩
      have nor : numB 1 1000000 r = false → kettleB [x, r, f, m] = false := fun e => by
        show (nameB x && numB 1 1000000 r && _ && _) = false
        rw [cx, e] <;> rfl
      cases r with
      | s y => exact iteT (no (nor rfl) s1)
      | o => exact iteT (no (nor rfl) s1)
      | f t b => exact iteT (no (nor rfl) s1)
      | i n =>
      obtain ⟨rfl, _⟩ : v2 = .int n ∧ _ := p2
      refine iteF ?_
      refine ⟨_, rfl, a, _, 1, _, rfl, rfl, h1', at1, _, _, rfl, rfl, _, rfl, ?_⟩
      by_cases r0 : 1 ≤ n
      case' neg => exact ite_bF (decide_eq_false r0) ⟨_, rfl, iteT (no (nor (by show (decide (1 ≤ n) && _) = false; rw [decide_eq_false r0] <;> rfl)) s1)⟩
      refine ite_bT (decide_eq_true r0) ?_
      refine ⟨_, _, rfl, rfl, ⟨by decide, by decide, by decide⟩, _, _, rfl, rfl, _, rfl, ?_⟩
      have e6 : (10 : Int) ^ (6 : Int).toNat = 1000000 := by decide
      rw [e6]
      by_cases r1 : n ≤ 1000000
      case' neg =>
        rw [decide_eq_false r1]
        exact iteT (no (nor (by show (_ && decide (n ≤ 1000000)) = false; rw [decide_eq_false r1, Bool.and_false])) s1)
      rw [decide_eq_true r1]
      refine iteF ?_
      have nr : numB 1 1000000 (.i n) = true := by
        show (decide (1 ≤ n) && decide (n ≤ 1000000)) = true
        rw [decide_eq_true r0, decide_eq_true r1] <;> rfl
      refine ⟨_, rfl, _, rfl, a, _, -1, _, rfl, rfl, h1', rfl, v4, m, rfl, p4.tk (.same s1), fun H2 s2 => ⟨_, rfl, ?_⟩⟩
      have s12 := s1.trans s2
      cases cm : fracP m with
      | false =>
        exact iteT (no (by
          show (_ && markB m) = false
          rw [(markB_fr cm).1, Bool.and_false]) s12)
      | true =>
      refine iteF ?_
      cases m with
      | s y => cases cm
      | o => cases cm
      | i n => cases cm
      | f t b =>
      obtain ⟨⟨mm, rfl, hm⟩, _⟩ := p4
      have cf : fracB t b = true := cm
      have h12 := Same.tup s12 h1
      refine ⟨_, rfl, _, rfl, a, _, -1, _, rfl, rfl, h12, rfl, mm, _, rfl, Same.tup s12 hm, rfl, _, _, rfl, _, _, rfl, rfl, ?_⟩
      refine ⟨_, rfl, rfl, _, rfl, ?_⟩
      rw [decide_eq_true rfl]
      refine iteT ?_
      refine ⟨_, rfl, a, _, 2, _, rfl, rfl, h12, at2, 0, 2, v3, f.d, rfl, (p3.tk (.same s12)).dj, _, rfl, ?_⟩
      have nof : numB 0 10000 f = false → kettleB [x, .i n, f, .f t b] = false := fun e => by
        show (nameB x && numB 1 1000000 (.i n) && numB 0 10000 f && _) = false
        rw [cx, nr, e] <;> rfl
      cases f with
      | s y => exact iteF (no (nof rfl) s12)
      | o => exact iteF (no (nof rfl) s12)
      | f t b => exact iteF (no (nof rfl) s12)
      | i g =>
      obtain ⟨rfl, _⟩ : v3 = .int g ∧ _ := p3
      refine iteT ?_
      refine ⟨_, rfl, a, _, 2, _, rfl, rfl, h12, at2, _, _, rfl, rfl, _, rfl, ?_⟩
      by_cases f0 : 0 ≤ g
      case' neg => exact ite_bF (decide_eq_false f0) ⟨_, rfl, iteF (no (nof (by show (decide (0 ≤ g) && _) = false; rw [decide_eq_false f0] <;> rfl)) s12)⟩
      refine ite_bT (decide_eq_true f0) ?_
      refine ⟨_, _, rfl, rfl, ⟨by decide, by decide, by decide⟩, _, _, rfl, rfl, _, rfl, ?_⟩
      have e4 : (10 : Int) ^ (4 : Int).toNat = 10000 := by decide
      rw [e4]
      by_cases f1 : g ≤ 10000
      case' neg =>
        rw [decide_eq_false f1]
        exact iteF (no (nof (by show (_ && decide (g ≤ 10000)) = false; rw [decide_eq_false f1, Bool.and_false])) s12)
      rw [decide_eq_true f1]
      refine iteT ?_
      have nf : numB 0 10000 (.i g) = true := by
        show (decide (0 ≤ g) && decide (g ≤ 10000)) = true
        rw [decide_eq_true f0, decide_eq_true f1] <;> rfl
      have eK : kettleB [x, .i n, .i g, .f t b] = (decide (0 < t) && decide (t < b) && decide (b ≤ 60)) := by
        show (nameB x && numB 1 1000000 (.i n) && numB 0 10000 (.i g) && (fracB t b && (decide (0 < t) && decide (t < b) && decide (b ≤ 60)))) = _
        rw [cx, nr, nf, cf] <;> rfl
      have q2 := q H2 s12
      rw [eK] at q2
      refine ⟨_, rfl, _, _, rfl, rfl, _, rfl, ?_⟩
      by_cases t0 : 0 < t
      case' neg =>
        rw [decide_eq_false t0] at q2
        exact ite_bF (decide_eq_false t0) q2
      rw [decide_eq_true t0] at q2
      refine ite_bT (decide_eq_true t0) ?_
      refine ⟨_, rfl, _, _, rfl, rfl, _, rfl, ?_⟩
      by_cases tb : t < b
      case' neg =>
        rw [decide_eq_false tb] at q2
        exact ite_bF (decide_eq_false tb) q2
      rw [decide_eq_true tb] at q2
      refine ite_bT (decide_eq_true tb) ?_
      exact ⟨_, _, rfl, rfl, q2⟩
    · by_cases n3 : ps.length = 3
      case' neg =>
        have e : mouldB ps = false := mouldB_len n3
        rw [e] at q
        exact ite_nT (by omega) (q H (Same.refl _))
      refine ite_nF (by omega) ?_
      obtain ⟨v1, v2, v4, rfl⟩ := len3 (el.trans n3)
      obtain ⟨x, r, m, rfl⟩ := len3 n3
      have p1 := hP.at_ 0 v1 x rfl rfl
      have p2 := hP.at_ 1 v2 r rfl rfl
      have p4 := hP.at_ 2 v4 m rfl rfl
      have no : ∀ {G : Hp}, mouldB [x, r, m] = false → Same H G → Q (.bl false) G := fun {G} e s => by
        have := q G s
        rw [e] at this
        exact this
      refine ⟨_, rfl, a, _, 0, _, rfl, rfl, h1, at0, v1, x, rfl, p1, fun H1 s1 => ⟨_, rfl, ?_⟩⟩
      cases cx : nameB x with
      | false => exact iteT (no (by show (nameB x && _ && _) = false; rw [cx] <;> rfl) s1)
      | true =>
      refine iteF ?_
      have h1' := Same.tup s1 h1
      refine ⟨_, rfl, a, _, 1, _, rfl, rfl, h1', at1, 0, 2, v2, r.d, rfl, (p2.tk (.same s1)).dj, _, rfl, ?_⟩
      have nor : numB 1 1000000 r = false → mouldB [x, r, m] = false := fun e => by
        show (nameB x && numB 1 1000000 r && _) = false
        rw [cx, e] <;> rfl
      cases r with
      | s y => exact iteT (no (nor rfl) s1)
      | o => exact iteT (no (nor rfl) s1)
      | f t b => exact iteT (no (nor rfl) s1)
      | i n =>
      obtain ⟨rfl, _⟩ : v2 = .int n ∧ _ := p2
      refine iteF ?_
      refine ⟨_, rfl, a, _, 1, _, rfl, rfl, h1', at1, _, _, rfl, rfl, _, rfl, ?_⟩
      by_cases r0 : 1 ≤ n
      case' neg => exact ite_bF (decide_eq_false r0) ⟨_, rfl, iteT (no (nor (by show (decide (1 ≤ n) && _) = false; rw [decide_eq_false r0] <;> rfl)) s1)⟩
      refine ite_bT (decide_eq_true r0) ?_
      refine ⟨_, _, rfl, rfl, ⟨by decide, by decide, by decide⟩, _, _, rfl, rfl, _, rfl, ?_⟩
      have e6 : (10 : Int) ^ (6 : Int).toNat = 1000000 := by decide
      rw [e6]
      by_cases r1 : n ≤ 1000000
      case' neg =>
        rw [decide_eq_false r1]
        exact iteT (no (nor (by show (_ && decide (n ≤ 1000000)) = false; rw [decide_eq_false r1, Bool.and_false])) s1)
      rw [decide_eq_true r1]
      refine iteF ?_
      have nr : numB 1 1000000 (.i n) = true := by
        show (decide (1 ≤ n) && decide (n ≤ 1000000)) = true
        rw [decide_eq_true r0, decide_eq_true r1] <;> rfl
      refine ⟨_, rfl, _, rfl, a, _, -1, _, rfl, rfl, h1', rfl, v4, m, rfl, p4.tk (.same s1), fun H2 s2 => ⟨_, rfl, ?_⟩⟩
      have s12 := s1.trans s2
      cases cm : fracP m with
      | false =>
        exact iteT (no (by
          show (_ && dripB m) = false
          rw [(markB_fr cm).2, Bool.and_false]) s12)
      | true =>
      refine iteF ?_
      cases m with
      | s y => cases cm
      | o => cases cm
      | i n => cases cm
      | f t b =>
      obtain ⟨⟨mm, rfl, hm⟩, _⟩ := p4
      have cf : fracB t b = true := cm
      have h12 := Same.tup s12 h1
      refine ⟨_, rfl, _, rfl, a, _, -1, _, rfl, rfl, h12, rfl, mm, _, rfl, Same.tup s12 hm, rfl, _, _, rfl, _, _, rfl, rfl, ?_⟩
      refine ⟨_, rfl, rfl, _, rfl, ?_⟩
      rw [decide_eq_false (by decide)]
      refine iteF ?_
      have eK : mouldB [x, .i n, .f t b] = (decide (0 ≤ t) && decide (t < b) && decide (b ≤ 12)) := by
        show (nameB x && numB 1 1000000 (.i n) && (fracB t b && (decide (0 ≤ t) && decide (t < b) && decide (b ≤ 12)))) = _
        rw [cx, nr, cf] <;> rfl
      have q2 := q H2 s12
      rw [eK] at q2
      refine ⟨_, rfl, _, _, rfl, rfl, _, rfl, ?_⟩
      by_cases t0 : 0 ≤ t
      case' neg =>
        rw [decide_eq_false t0] at q2
        exact ite_bF (decide_eq_false t0) q2
      rw [decide_eq_true t0] at q2
      refine ite_bT (decide_eq_true t0) ?_
      refine ⟨_, rfl, _, _, rfl, rfl, _, rfl, ?_⟩
      by_cases tb : t < b
      case' neg =>
        rw [decide_eq_false tb] at q2
        exact ite_bF (decide_eq_false tb) q2
      rw [decide_eq_true tb] at q2
      refine ite_bT (decide_eq_true tb) ?_
      exact ⟨_, _, rfl, rfl, q2⟩

end
end KR
namespace KR
open PySem PySem.Spec PyProof.Rows L2
section
variable {P : Program} {w : World} {K : PySem.W.Frag} {mg : Str → Option Value} {base : Heap}
def sp_l_refused (K : PySem.W.Frag) (Ps : List Addr) : Sp := fun vs H Q _ => ∃ (x : Str), vs = [.str x] ∧ x.length ≤ 50000 ∧ Tbs Ps H ∧ (∀ n : Nat, readP x = .inl n → ∀ H', Sm H H' → Q (.int (n : Int)) H') ∧ (∀ st, readP x = .inr st → ∀ H', Sm H H' → Q .non H')
theorem ok_l_refused (T : All K mg) (B : Tabs T base) : FnOk P w K mg base CX0 10 T.f_l_refused T.fd_l_refused ["_law_text"] (sp_l_refused K T.Ps) := by
  refine T.d_l_refused.fn.ok sc_l_refused (fun vs H Q E h => ?_) (fun cdv A outer s H vs Q E hr h => ?_)
  · obtain ⟨x, rfl, _⟩ := h
    rfl
  · obtain ⟨x, rfl, lx, hT, qB, qG⟩ := h
    refine ⟨_, (pss_cons (ps_set (i := 1) sc_l_refused.nd rfl (by first | exact Or.inl rfl | exact Or.inr rfl) pe_non)
      (pss_cons (ps_try_keep (i := 2) (tb := fun W => tDrop (tCallS (sp_p_row_from K T.C_Row T.C_BadRow T.Ps) (WE W) (tCons (tVar 0) tNil))) (ts := fun a cls d => tAsg (tVar 2) (gName 1)) (Wo := fun _ _ _ _ => False) rfl rfl sc_l_refused.nd rfl rfl ⟨rfl, by decide, Or.inl T.g_BoilError⟩ takes0 (fun W pn xe tk _ => pss_one (ps_expr (by exact (pe_callS (ok_p_row_from T B) hr rfl T.d_p_row_from.mg T.d_p_row_from.fn.kp T.d_p_row_from.b (fun σ => passAt tk σ) (by exact (pa_cons (pv 0) pa_nil)))))) (fun a ob cls d pn z f => pss_one (ps_set (i := 1) sc_l_refused.nd rfl (Or.inl rfl) (pv 2))))
      (pss_cons (ps_if (pt_cmpR op_isN (pv 1) pe_non (nomark _)) (pss_one (ps_ret pe_non)) pss_nil)
      (pss_cons (ps_if (PW.pt (pw_or (pt_not (pt_val (pe_callB (isX (K := K) rfl) (by rfl) T.b_isinstance (by decide +kernel) (pa_cons (pv 1) (pa_cons (pe_glob (v := .ref T.C_BadRow) rfl T.g_BadRow rfl) pa_nil))))) (pw_or (pt_not (pt_val (pe_callB (isX (K := K) rfl) (by rfl) T.b_isinstance (by decide +kernel) (pa_cons (pv 1) (pa_cons (pe_bltn (v := .ty "ValueError") (by rfl) T.b_ValueError (by decide +kernel) rfl) pa_nil))))) (pw_or1 (pt_val (pe_callB (isiK (K := K) rfl) (by rfl) T.b_isinstance (by decide +kernel) (pa_cons (pe_what rfl (pv 1)) (pa_cons (pe_bltn (v := .ty "bool") (by rfl) T.b_bool (by decide +kernel) rfl) pa_nil)))))))) (pss_one (ps_ret pe_str)) pss_nil)
      (pss_one (ps_ret (pe_ifExp (pt_val (pe_callB (isXT (K := K) rfl) (by rfl) T.b_isinstance (by decide +kernel) (pa_cons (pv 1) (pa_cons (pe_tupI (pa_cons (pe_glob (v := .ref T.C_BadFrac) rfl T.g_BadFrac rfl) (pa_cons (pe_glob (v := .ref T.C_BadKettles) rfl T.g_BadKettles rfl) (pa_cons (pe_glob (v := .ref T.C_BadMoulds) rfl T.g_BadMoulds rfl) pa_nil)))) pa_nil)))) pe_str (pe_what rfl (pv 1))))))))), ?_⟩
    refine ⟨_, rfl, x, rfl, lx, hT, fun n en d H1 s1 hd => ?_, fun kss mss en y dx k m ks ms H1 s1 _ _ _ _ _ => ?_⟩
    · refine ⟨true, T.te, fun _ a ha => ⟨_, rfl, ?_⟩, fun z => nomatch z⟩
      have sa : Same H1 (upd H1 a (ExK (.ref T.C_BadRow) (some d) a)) := same_new ha
      have kp : Kept K (upd H1 a (ExK (.ref T.C_BadRow) (some d) a)) a T.C_BadRow d (.int (n : Int)) := ⟨T.E_BadRow, upd_same, ⟨_, sa _ _ hd⟩⟩
      have s02 := s1.trans (.of sa)
      have kb : kitB "int" "bool" = some false := by decide +kernel
      refine ⟨_, rfl, rfl, _, rfl, iteF ?_⟩
      refine ⟨_, rfl, a, T.C_BadRow, d, _, .ref T.C_BadRow, _, true, rfl, kp, .own _, T.kF, true, rfl, iteF ?_⟩
      refine ⟨_, rfl, a, T.C_BadRow, d, _, .ty "ValueError", _, true, rfl, kp, .ty _, T.kV, true, rfl, iteF ?_⟩
      refine ⟨_, rfl, a, T.C_BadRow, d, _, rfl, kp, _, _, _, _, _, rfl, .ty _, .base (.int _), kit_ty kb, _, rfl, iteF ?_⟩
      refine ⟨_, rfl, rfl, fun tp H3 s3 n3 h3 => ?_⟩
      have k3 := kp.same s3
      refine ⟨a, T.C_BadRow, d, tp, _, _, _, false, rfl, k3, h3, .cons (.own _) (.cons (.own _) (.cons (.own _) .nil)), T.k3, false, rfl, iteF ?_⟩
      exact ⟨_, rfl, a, T.C_BadRow, d, _, rfl, k3, qB n en H3 (s02.trans (.of s3))⟩
    · exact ⟨_, rfl, rfl, _, rfl, iteT (qG _ en H1 s1)⟩

end
end KR
namespace KR
open PySem PySem.Spec PyProof.Rows L2
section
variable {P : Program} {w : World} {K : PySem.W.Frag} {mg : Str → Option Value} {base : Heap}
theorem in_digs {z : Nat} : (!(Builtin.Str.occurrences ("0123456789" : Str) ⟨#[z]⟩ 0 ("0123456789" : Str).length 1).isEmpty) = decide (48 ≤ z ∧ z ≤ 57) := by
  rw [PySem.StrLaws.found_one, decide_eq_decide]
  have e : ("0123456789" : Str).cps.toList = (List.range 10).map (48 + ·) := by decide +kernel
  rw [e, List.mem_map]
  constructor
  · rintro ⟨i, hi, rfl⟩
    have := List.mem_range.mp hi
    omega
  · rintro ⟨h1, h2⟩
    exact ⟨z - 48, List.mem_range.mpr (by omega), by omega⟩
theorem figs_all {l : List Nat} (h : l ≠ []) : figs l = ((l.map fun c => decide (48 ≤ c ∧ c ≤ 57)).all id) := by
  unfold figs
  rw [List.all_map]
  have e1 : decide (l ≠ []) = true := decide_eq_true h
  simp [h, Function.comp_def]
def sp_l_figures (K : PySem.W.Frag) : Sp := fun vs H Q _ => ∃ x : Str, vs = [.str x] ∧ x.length ≤ 50000 ∧ ∀ H', Same H H' → Q (optN (numN (TL.tl x))) H'
theorem ok_l_figures (T : All K mg) : FnOk P w K mg base CX0 1 T.f_l_figures T.fd_l_figures ["_law_word"] (sp_l_figures K) := by
  refine T.d_l_figures.fn.ok sc_l_figures (fun vs H Q E h => ?_) (fun cdv A outer s H vs Q E hr h => ?_)
  · obtain ⟨x, rfl, _⟩ := h
    rfl
  · obtain ⟨x, rfl, lx, q⟩ := h
    refine ⟨_, (pss_cons (ps_if (PW.pt (pw_or (pt_not (pt_chain op_le op_le pe_int (pe_callB call_len_str (by rfl) T.b_len PySem.boot_len (pa_cons (pv 0) pa_nil)) pe_int)) (pw_or (pt_not (pt_val (pe_callB (allK (K := K) rfl rfl) (by rfl) T.b_all (by decide +kernel) (pa_cons (pe_lc (own := [("_law_sign", 1)]) (g := gName 1) (tt := tYes) (by rfl) sc_l_figures.nd (pi_str (pv 0)) (blkOk_by (own := [("_law_sign", 1)]) (N := ["_law_word", "_law_sign"]) (sc := defScope s_l_figures) (by decide +kernel)) (fun _ _ _ _ _ => (pg_name (i := 1) sc_l_figures.nd rfl (by first | exact Or.inl rfl | exact Or.inr rfl))) (fun _ _ _ _ _ => pts_nil) (fun _ _ _ _ _ => (pe_cmpR op_in_str (pv 1) pe_str (by rfl)))) pa_nil)))) (pw_or1 (pt_cmpR op_ne (pe_callTy call_str_int (by rfl) T.b_str (by decide +kernel) (pa_cons (pe_callTy call_int_str (by rfl) T.b_int (by decide +kernel) (pa_cons (pv 0) pa_nil)) pa_nil)) (pv 0) (nomark _)))))) (pss_one (ps_ret pe_non)) pss_nil)
      (pss_one (ps_ret (pe_callTy call_int_str (by rfl) T.b_int (by decide +kernel) (pa_cons (pv 0) pa_nil))))), ?_⟩
    have el : (TL.tl x).length = x.length := (TL.len_tl x).symm
    unfold numN at q
    refine ⟨_, rfl, _, rfl, small (by omega), _, _, rfl, rfl, _, rfl, ?_⟩
    by_cases c1 : 1 ≤ x.length
    case' neg =>
      refine ite_bF (decide_eq_false (by omega)) ?_
      have e : figs (TL.tl x) = false := by
        rw [List.eq_nil_of_length_eq_zero (by omega : (TL.tl x).length = 0)] <;> rfl
      rw [e, Bool.and_false] at q
      exact ⟨_, rfl, iteT (q H (Same.refl _))⟩
    refine ite_bT (decide_eq_true (by omega)) ?_
    refine ⟨_, _, rfl, rfl, _, rfl, ?_⟩
    by_cases c7 : x.length ≤ 7
    case' neg =>
      rw [decide_eq_false (show ¬ ((x.length : Nat) : Int) ≤ 7 by omega)]
      rw [decide_eq_false (show ¬ (TL.tl x).length ≤ 7 by omega), Bool.false_and] at q
      exact iteT (q H (Same.refl _))
    rw [decide_eq_true (show ((x.length : Nat) : Int) ≤ 7 by omega)]
    rw [decide_eq_true (show (TL.tl x).length ≤ 7 by omega), Bool.true_and] at q
    refine iteF ?_
    refine ⟨_, rfl, x, rfl, fun D hD => ?_⟩
    have tlx : (TL.tl x).length = x.cps.size := (TL.len_tl x).symm
    have cx : x.cps.size = x.length := rfl
    refine lc_it (walk_str (z := x)) (fun i H' => Same H H' ∧ H' D = some (.lst ((((TL.tl x).take i).map fun c => decide (48 ≤ c ∧ c ≤ 57)).map V.bl))) ⟨same_new hD, upd_same⟩ (fun _ _ _ _ => trivial) (fun i y H' H2 hi w hy => ?_) (fun H' w => ?_)
    · obtain ⟨sm, hl⟩ := w
      obtain ⟨rfl, c, hc, rfl⟩ := hy
      have hc2 : (TL.tl x)[i]? = some c := by
        rw [← Array.getElem?_toList] at hc
        exact hc
      refine ⟨rfl, yesT ?_⟩
      refine ⟨_, rfl, _, _, rfl, rfl, ?_⟩
      refine ⟨_, hl, by rw [List.length_map, List.length_map]; exact small' (by rw [List.length_take]; omega), Same.put sm hD, ?_⟩
      rw [upd_same, in_digs, take_one hc2, List.map_append, List.map_append] <;> rfl
    · obtain ⟨sm, hl⟩ := w
      rw [List.take_of_length_le (by omega)] at hl
      refine ⟨D, _, rfl, SqL.of hl, ?_⟩
      rw [← figs_all (l := TL.tl x) (fun z => by rw [z] at el; have : 0 = x.length := el; omega)]
      cases c0 : figs (TL.tl x) with
      | false =>
        rw [c0] at q
        exact ⟨_, rfl, iteT (q H' sm)⟩
      | true =>
      rw [c0, if_pos rfl] at q
      have dl := Nat.lt_of_lt_of_le (dv_lt _ (TL.tl x) rfl (figs_dig c0)) (Nat.pow_le_pow_right (n := 10) (by decide) (show (TL.tl x).length ≤ 7 by omega))
      have fi : PySem.intText? x = some ((NumText.digitsVal (TL.tl x) : Nat) : Int) := by
        have z := figs_int c0 (Nat.le_trans (show (TL.tl x).length ≤ 7 by omega) (by decide))
        rw [S_tl] at z
        exact z
      have le : x.length ≤ 640 := by omega
      have ex : S (TL.tl x) = x := S_tl x
      refine ⟨_, rfl, iteF ?_⟩
      refine ⟨_, rfl, _, _, rfl, fi, le, _, rfl, Nat.lt_trans (PySem.Flt.log2_lt_of (by decide) (b40 (Nat.lt_trans dl (by decide)))) (by decide), ?_⟩
      rw [show Str.ofString (toString ((NumText.digitsVal (TL.tl x) : Nat) : Int)) = _ from num_S _]
      refine ⟨_, rfl, rfl, _, rfl, ?_⟩
      by_cases c2 : TL.numL (NumText.digitsVal (TL.tl x)) = TL.tl x
      · rw [if_pos c2] at q
        rw [decide_eq_true (show V.str (S (TL.numL (NumText.digitsVal (TL.tl x)))) = V.str x by rw [c2, ex])]
        refine iteF ?_
        exact ⟨_, rfl, _, _, rfl, fi, le, q H' sm⟩
      · rw [if_neg c2] at q
        rw [decide_eq_false fun z => c2 (by have y := V.str.inj z; rw [← ex] at y; exact S_inj y)]
        exact iteT (q H' sm)

end
end KR
namespace KR
open PySem PySem.Spec PyProof.Rows L2
section
variable {P : Program} {w : World} {K : PySem.W.Frag} {mg : Str → Option Value} {base : Heap}
/-- a fraction, as this law reads it -/
def lfL : List Str → Pt
  | [a] => match numN (TL.tl a) with
    | some n => .f n 1
    | none => .o
  | [a, b] => match numN (TL.tl a), numN (TL.tl b) with
    | some n, some k => if fracB n k = true ∧ 1 < k then .f n k else .o
    | _, _ => .o
  | _ => .o
def lfP (x : Str) : Pt := lfL (Txt.split x "/")
theorem nums_in {l : List Str} : inV .non (l.map fun w => optN (numN (TL.tl w))) = true ↔ ∃ w ∈ l, numN (TL.tl w) = none := by
  unfold inV
  rw [List.any_map, List.any_eq_true]
  constructor
  · rintro ⟨p, hp, h⟩
    refine ⟨p, hp, ?_⟩
    have h' : eqV (optN (numN (TL.tl p))) .non = true := h
    cases e : numN (TL.tl p) with
    | none => rfl
    | some n =>
      rw [e] at h'
      cases h'
  · rintro ⟨p, hp, h⟩
    refine ⟨p, hp, ?_⟩
    show eqV (optN (numN (TL.tl p))) .non = true
    rw [h]
    rfl
theorem nums_fl (l : List Str) : (l.map fun w => optN (numN (TL.tl w))).all flatV = true := by
  rw [List.all_map, List.all_eq_true]
  intro p _
  show flatV (optN (numN (TL.tl p))) = true
  cases numN (TL.tl p) <;> rfl
theorem lfL_none : ∀ {l : List Str}, (∃ w ∈ l, numN (TL.tl w) = none) → lfL l = .o
  | [], _ => rfl
  | [a], ⟨w, hw, e⟩ => by
    rw [List.mem_singleton.mp hw] at e
    simp only [lfL, e]
  | [a, b], ⟨w, hw, e⟩ => by
    rcases List.mem_cons.mp hw with z | z
    · rw [z] at e
      simp only [lfL, e]
    · rw [List.mem_singleton.mp z] at e
      simp only [lfL, e]
      cases numN (TL.tl a) <;> rfl
  | _ :: _ :: _ :: _, _ => rfl
def sp_l_read_frac (K : PySem.W.Frag) : Sp := fun vs H Q _ => ∃ x : Str, vs = [.str x] ∧ x.length ≤ 50000 ∧ ∀ v H', Same H H' → PtAt K H' v (lfP x) → Q v H'
theorem ok_l_read_frac (T : All K mg) : FnOk P w K mg base CX0 3 T.f_l_read_frac T.fd_l_read_frac ["_law_word"] (sp_l_read_frac K) := by
  refine T.d_l_read_frac.fn.ok sc_l_read_frac (fun vs H Q E h => ?_) (fun cdv A outer s H vs Q E hr h => ?_)
  · obtain ⟨x, rfl, _⟩ := h
    rfl
  · obtain ⟨x, rfl, lx, q⟩ := h
    refine ⟨_, (pss_cons (ps_set (i := 1) sc_l_read_frac.nd rfl (by first | exact Or.inl rfl | exact Or.inr rfl) (pe_split (pv 0) pe_str))
      (pss_cons (ps_setLc (i := 2) (own := [("_law_one", 3)]) (g := gName 3) (tt := tYes) (by rfl) sc_l_read_frac.nd rfl rfl (sw_true rfl rfl rfl (by decide +kernel)) (pi_listK (K := K) rfl (pv 1)) (blkOk_by (own := [("_law_one", 3)]) (N := ["_law_word", "_law_words", "_law_numbers", "_law_one", "_law_found"]) (sc := defScope s_l_read_frac) (by decide +kernel)) (fun _ _ _ _ _ => (pg_name (i := 3) sc_l_read_frac.nd rfl (by first | exact Or.inl rfl | exact Or.inr rfl))) (fun _ _ _ _ _ => pts_nil) (fun _ _ _ _ _ => (pe_call (ok_l_figures T) (hr.mono (by decide)) (by rfl) T.d_l_figures.mg T.d_l_figures.fn.kp T.d_l_figures.b .nil pass0 (pa_cons (pv 3) pa_nil))))
      (pss_cons (ps_if (PW.pt (pw_or (pt_cmpR op_gt (pe_callB (lenQ (K := K) rfl) (by rfl) T.b_len PySem.boot_len (pa_cons (pv 1) pa_nil)) pe_int (nomark _)) (pw_or1 (pt_cmpR (inQ (K := K) rfl) pe_non (pv 2) (by with_unfolding_all rfl))))) (pss_one (ps_ret pe_non)) pss_nil)
      (pss_cons (ps_set (i := 4) sc_l_read_frac.nd rfl (by first | exact Or.inl rfl | exact Or.inr rfl) (pe_slice (slL (K := K) rfl) (pe_op op_catI (pv 2) (pe_lstI (pa_cons pe_int pa_nil))) po_none (po_some pe_int)))
      (pss_one (ps_ret (pe_ifExp (PW.pt (pw_and (pt_val (pe_call (ok_l_is_frac T) hr (by rfl) T.d_l_is_frac.mg T.d_l_is_frac.fn.kp T.d_l_is_frac.b .nil pass0 (pa_cons (pe_callTy (tupI (K := K) rfl) (by rfl) T.b_tuple (by decide +kernel) (pa_cons (pv 4) pa_nil)) pa_nil))) (pw_and1 (PW.pt (pw_or (pt_cmpR op_eq (pe_callB (lenQ (K := K) rfl) (by rfl) T.b_len PySem.boot_len (pa_cons (pv 1) pa_nil)) pe_int (nomark _)) (pw_or1 (pt_cmpR op_gt (pe_ix (ixL (K := K) rfl) (pv 4) pe_int (fun _ _ => rfl)) pe_int (nomark _)))))))) (pe_callTy (tupI (K := K) rfl) (by rfl) T.b_tuple (by decide +kernel) (pa_cons (pv 4) pa_nil)) pe_non))))))), ?_⟩
    obtain ⟨ls, esp⟩ : ∃ ls, Txt.split x "/" = ls := ⟨_, rfl⟩
    obtain ⟨ne, _, _, hp, lns⟩ := split_at stroke_at (by decide) x
    have er : lfP x = lfL (Txt.split x "/") := rfl
    rw [esp] at ne hp lns er
    refine ⟨_, rfl, ⟨_, rfl⟩, _, _, rfl, rfl, rfl, small (by omega), fun w hw => ?_⟩
    rw [esp]
    have s1 := same_new (o := .lst (ls.map V.str)) hw
    have h1 : (upd H w (.lst (ls.map V.str))) w = _ := upd_same
    generalize upd H w (.lst (ls.map V.str)) = H1 at s1 h1
    refine ⟨_, rfl, w, rfl, ⟨_, SqL.of h1⟩, fun D hD => ?_⟩
    refine lc_list (K := K) (a := w) (xs := ls.map V.str) (fun j H' => Same H1 H' ∧ H' D = some (.lst ((ls.take j).map fun w => optN (numN (TL.tl w))))) ⟨same_new hD, upd_same⟩ (fun j H' _ e => SqL.of (e.1 _ _ h1)) ?_ ?_
    · rintro j y H2 hj ⟨s2, h2⟩
      obtain ⟨b, hb, rfl⟩ : ∃ b, ls[j]? = some b ∧ y = V.str b := by
        rw [List.getElem?_map] at hj
        cases e : ls[j]? with
        | none => rw [e] at hj; cases hj
        | some b => rw [e] at hj; exact ⟨b, rfl, (Option.some.inj hj).symm⟩
      have jl : j < ls.length := (List.getElem?_eq_some_iff.mp hb).1
      refine ⟨rfl, yesT ?_⟩
      refine ⟨_, rfl, b, rfl, Nat.le_trans (hp b (List.mem_of_getElem? hb)) lx, fun H3 s3 => ?_⟩
      refine ⟨_, s3 _ _ h2, by rw [List.length_map, List.length_take]; exact small' (by omega), Same.put (s2.trans s3) hD, ?_⟩
      rw [upd_same, take_one hb, List.map_append]
      rfl
    · rintro H2 ⟨s2, h2⟩
      rw [List.length_map, List.take_length] at h2
      have s02 := s1.trans s2
      have hw2 := s2 _ _ h1
      have llen : (ls.map V.str).length = ls.length := List.length_map _
      refine ⟨_, rfl, w, _, rfl, .inl (SqL.of hw2), _, _, rfl, rfl, _, rfl, ?_⟩
      by_cases c2 : 2 < ls.length
      · rw [decide_eq_true (show (2 : Int) < (((ls.map V.str).length : Nat) : Int) by rw [llen]; omega)]
        have e : lfL ls = .o := match ls, c2 with
          | _ :: _ :: _ :: _, _ => rfl
        rw [er, e] at q
        exact iteT (iteT (q _ _ s02 rfl))
      rw [decide_eq_false (show ¬ (2 : Int) < (((ls.map V.str).length : Nat) : Int) by rw [llen]; omega)]
      refine iteF ?_
      refine ⟨_, rfl, D, _, rfl, .inl (SqL.of h2), rfl, nums_fl ls, _, rfl, ?_⟩
      by_cases an : ∃ w ∈ ls, numN (TL.tl w) = none
      · rw [er, lfL_none an] at q
        refine ite_bT (nums_in.mpr an) ?_
        first | exact q _ _ s02 rfl | exact iteT (q _ _ s02 rfl)
      refine ite_bF (Bool.eq_false_iff.mpr fun e => an (nums_in.mp e)) ?_
      refine ⟨_, rfl, rfl, fun l H3 s3 n3 h3 => ?_⟩
      have s03 := s02.trans s3
      refine ⟨D, l, _, _, rfl, rfl, s3 _ _ h2, h3, by rw [List.length_map]; exact small (by show ls.length + 1 ≤ 100000; omega), fun c H4 s4 n4 h4 => ?_⟩
      refine ⟨_, rfl, c, _, rfl, SqL.of h4, fun p H5 s5 n5 h5 => ?_⟩
      have s05 := s03.trans (s4.trans s5)
      have hw5 := s5 _ _ (s4 _ _ (s3 _ _ hw2))
      have b7 : ∀ {n : Nat}, n < 10 ^ 7 → ((n : Nat) : Int).natAbs < 2 ^ 200 := fun h => by rw [Int.natAbs_natCast]; exact Nat.lt_trans h (by decide)
      have all : ∀ u ∈ ls, ∃ n, numN (TL.tl u) = some n ∧ n < 10 ^ 7 := fun u hu => by
        cases e : numN (TL.tl u) with
        | none => exact absurd ⟨u, hu, e⟩ an
        | some n => exact ⟨n, rfl, (numN_iff.mp e).2⟩
      match ls, ne, c2, all, er, h5, hw5 with
      | [a], _, _, all, er, h5, hw5 =>
        obtain ⟨n, en, ln⟩ := all a List.mem_cons_self
        have h5 : H5 p = some (.lst [.int (n : Int), .int 1]) := by rw [h5, List.map_cons, en] <;> rfl
        have el : lfP x = .f n 1 := by rw [er]; simp only [lfL, en]
        rw [el] at q
        have P1 : ∀ {t : Addr} {H' : Hp}, SqT K H' t [.int (n : Int), .int 1] → PtAt K H' (.ref t) (.f n 1) := fun h => ⟨⟨_, rfl, h⟩, b7 ln, by decide⟩
        have fb : fracP (.f n 1) = true := by
          show fracB n 1 = true
          unfold fracB
          rw [decide_eq_true (by decide : (0 : Int) < 1), decide_eq_true (show Nat.gcd (n : Int).natAbs (Int.natAbs 1) = 1 from Nat.gcd_one_right _)] <;> rfl
        refine ⟨_, rfl, p, _, rfl, .inl ⟨SqL.of h5, fun t H6 s6 n6 h6 => ?_⟩⟩
        refine ⟨_, _, rfl, P1 (SqT.of h6), fun H7 s7 => ⟨_, rfl, ?_⟩⟩
        rw [fb]
        have s57 := s6.trans s7
        refine iteT ?_
        refine ⟨_, rfl, w, _, rfl, .inl (SqL.of (s57 _ _ hw5)), rfl, _, rfl, ?_⟩
        refine ite_iT rfl (iteT ?_)
        refine ⟨_, rfl, p, _, rfl, .inl ⟨SqL.of (s57 _ _ h5), fun t2 H8 s8 n8 h8 => ?_⟩⟩
        exact q _ _ (s05.trans (s57.trans s8)) (P1 (SqT.of h8))
      | [a, b], _, _, all, er, h5, hw5 =>
        obtain ⟨n, en, ln⟩ := all a List.mem_cons_self
        obtain ⟨k, ek, lk⟩ := all b (List.mem_cons_of_mem _ List.mem_cons_self)
        have h5 : H5 p = some (.lst [.int (n : Int), .int (k : Int)]) := by rw [h5, List.map_cons, List.map_cons, en, ek] <;> rfl
        have el : lfP x = if fracB n k = true ∧ 1 < k then .f n k else .o := by rw [er]; simp only [lfL, en, ek]
        have P1 : ∀ {t : Addr} {H' : Hp}, SqT K H' t [.int (n : Int), .int (k : Int)] → PtAt K H' (.ref t) (.f n k) := fun h => ⟨⟨_, rfl, h⟩, b7 ln, b7 lk⟩
        refine ⟨_, rfl, p, _, rfl, .inl ⟨SqL.of h5, fun t H6 s6 n6 h6 => ?_⟩⟩
        refine ⟨_, _, rfl, P1 (SqT.of h6), fun H7 s7 => ⟨_, rfl, ?_⟩⟩
        have s57 := s6.trans s7
        have efb : fracP (.f n k) = fracB n k := rfl
        rw [efb]
        cases fb : fracB n k with
        | false =>
          rw [el, if_neg (fun z => by rw [fb] at z; exact Bool.false_ne_true z.1)] at q
          exact iteF (q _ _ (s05.trans s57) rfl)
        | true =>
        refine iteT ?_
        refine ⟨_, rfl, w, _, rfl, .inl (SqL.of (s57 _ _ hw5)), rfl, _, rfl, ?_⟩
        refine ite_iF (by show ¬ ((2 : Nat) : Int) = 1; decide) ?_
        refine ⟨_, rfl, p, _, 1, _, rfl, rfl, SqL.of (s57 _ _ h5), at1, _, _, rfl, rfl, _, rfl, ?_⟩
        by_cases c : 1 < k
        · rw [el, if_pos ⟨fb, c⟩] at q
          refine ite_bT (decide_eq_true (by omega)) ?_
          refine ⟨_, rfl, p, _, rfl, .inl ⟨SqL.of (s57 _ _ h5), fun t2 H8 s8 n8 h8 => ?_⟩⟩
          exact q _ _ (s05.trans (s57.trans s8)) (P1 (SqT.of h8))
        · rw [el, if_neg (fun z => c z.2)] at q
          refine ite_bF (decide_eq_false (by omega)) ?_
          exact q _ _ (s05.trans s57) rfl
      | _ :: _ :: _ :: _, _, c2, _, _, _, _ => exact absurd (by simp only [List.length_cons]; omega) c2

end
end KR
namespace KR
open PySem PySem.Spec PyProof.Rows L2
section
variable {P : Program} {w : World} {K : PySem.W.Frag} {mg : Str → Option Value} {base : Heap}
theorem two_m {k1 k2 : Key} {v1 v2 : V} (h : k1 ≠ k2) : mergeK [] [(k1, v1), (k2, v2)] = [(k1, v1), (k2, v2)] := by
  show putK (putK [] k1 v1) k2 v2 = _
  rw [putK_new v1 valV_nil, List.nil_append, putK_new v2 (by rw [valV_neg h, valV_nil])]
  rfl
def sortN (w : Str) : Int := if w = "kettle" then 5 else if w = "mould" then 4 else 0
theorem sort_get (w : Str) : (valV ([(.inr "kettle", .int 5), (.inr "mould", .int 4)] : List (Key × V)) (.inr w)).getD (.int 0) = .int (sortN w) := by
  unfold sortN
  by_cases c1 : w = "kettle"
  · rw [if_pos c1, valV_pos (by rw [c1])]
    rfl
  · rw [if_neg c1, valV_neg (fun z => c1 (Sum.inr.inj z).symm)]
    by_cases c2 : w = "mould"
    · rw [if_pos c2, valV_pos (by rw [c2])]
      rfl
    · rw [if_neg c2, valV_neg (fun z => c2 (Sum.inr.inj z).symm), valV_nil]
      rfl
theorem lf_parts (m : Str) : (Txt.split m "/").map TL.tl ≠ [] ∧ (∀ p ∈ (Txt.split m "/").map TL.tl, 47 ∉ p) ∧ TL.joinL [47] ((Txt.split m "/").map TL.tl) = TL.tl m := by
  obtain ⟨h1, h2, h3, _⟩ := split_at stroke_at (by decide) m
  refine ⟨by simpa using h1, fun p hp => ?_, h3⟩
  obtain ⟨q, hq, rfl⟩ := List.mem_map.mp hp
  exact h2 q hq
theorem frac_nn {t b : Int} (h : 0 ≤ t) : fracL t b = TL.numL t.natAbs ++ (if b = 1 then [] else 47 :: TL.numL b.natAbs) := by
  unfold fracL
  rw [if_neg (by omega), List.nil_append]
/-- what this law reads as a fraction, is one -/
theorem lf_w {m : Str} {t b : Int} (h : lfP m = .f t b) : fracW (TL.tl m) = .f t b := by
  obtain ⟨h1, h2, h3⟩ := lf_parts m
  have e0 : lfP m = lfL (Txt.split m "/") := rfl
  rw [e0] at h
  generalize Txt.split m "/" = ls at h h1 h2 h3
  have b4 : ∀ {n : Nat}, n < 10 ^ 7 → ((n : Nat) : Int).natAbs < 10 ^ 40 := fun h => by rw [Int.natAbs_natCast]; exact Nat.lt_trans h (by decide)
  match ls, h1, h, h3 with
  | [a], _, h, h3 =>
    cases e : numN (TL.tl a) with
    | none => simp only [lfL, e] at h; cases h
    | some n =>
      simp only [lfL, e] at h
      obtain ⟨e1, ln⟩ := numN_iff.mp e
      cases h
      refine fracW_iff.mpr ⟨⟨by decide, Nat.gcd_one_right _⟩, b4 ln, by decide, ?_⟩
      rw [← h3, frac_nn (by omega), if_pos rfl, List.append_nil, Int.natAbs_natCast, ← e1]
      rfl
  | [a, b'], _, h, h3 =>
    cases e : numN (TL.tl a) with
    | none => simp only [lfL, e] at h; cases h
    | some n =>
      cases e' : numN (TL.tl b') with
      | none => simp only [lfL, e, e'] at h; cases h
      | some k =>
        simp only [lfL, e, e'] at h
        by_cases c : fracB n k = true ∧ 1 < k
        · rw [if_pos c] at h
          obtain ⟨e1, ln⟩ := numN_iff.mp e
          obtain ⟨e2, lk⟩ := numN_iff.mp e'
          cases h
          have fb := Bool.and_eq_true_iff.mp (show fracB n k = true from c.1)
          refine fracW_iff.mpr ⟨⟨of_decide_eq_true fb.1, of_decide_eq_true fb.2⟩, b4 ln, b4 lk, ?_⟩
          rw [← h3, frac_nn (by omega), if_neg (by omega), Int.natAbs_natCast, Int.natAbs_natCast, ← e1, ← e2]
          rfl
        · rw [if_neg c] at h
          cases h
  | _ :: _ :: _ :: _, _, h, _ => cases h
/-- a fraction that is small, this law reads -/
theorem w_lf {m : Str} {t b : Int} (h : fracW (TL.tl m) = .f t b) (t0 : 0 ≤ t) (t7 : t < 10 ^ 7) (b7 : b < 10 ^ 7) : lfP m = .f t b := by
  obtain ⟨h1, h2, h3⟩ := lf_parts m
  have F := fracW_iff.mp h
  have bp := F.low.pos
  have e0 : lfP m = lfL (Txt.split m "/") := rfl
  rw [e0]
  have u := TL.spl_join (S := []) h1 h2
  rw [h3, F.eq, frac_nn t0] at u
  have nt : numN (TL.numL t.natAbs) = some t.natAbs := numN_iff.mpr ⟨rfl, by omega⟩
  have nb : numN (TL.numL b.natAbs) = some b.natAbs := numN_iff.mpr ⟨rfl, by omega⟩
  by_cases b1 : b = 1
  · rw [if_pos b1, List.append_nil] at u
    have v : (Txt.split m "/").map TL.tl = [TL.numL t.natAbs] := u.symm.trans (TL.spl_join (S := []) (parts := [TL.numL t.natAbs]) (by simp) fun p hp => by rw [List.mem_singleton.mp hp]; exact TL.numL_free (by decide))
    generalize Txt.split m "/" = ls at v
    match ls, v with
    | [a], v =>
      have ea : TL.tl a = TL.numL t.natAbs := (List.cons.inj v).1
      simp only [lfL, ea, nt]
      rw [b1, show ((t.natAbs : Nat) : Int) = t by omega]
    | [], v => exact absurd (congrArg List.length v) (by simp)
    | _ :: _ :: _, v => exact absurd (congrArg List.length v) (by simp)
  · rw [if_neg b1] at u
    have v : (Txt.split m "/").map TL.tl = [TL.numL t.natAbs, TL.numL b.natAbs] := u.symm.trans (TL.spl_join (S := []) (parts := [TL.numL t.natAbs, TL.numL b.natAbs]) (by simp) fun p hp => by
      rcases List.mem_cons.mp hp with e | e
      · rw [e]
        exact TL.numL_free (by decide)
      · rw [List.mem_singleton.mp e]
        exact TL.numL_free (by decide))
    generalize Txt.split m "/" = ls at v
    match ls, v with
    | [a, b'], v =>
      have ea : TL.tl a = TL.numL t.natAbs := (List.cons.inj v).1
      have eb : TL.tl b' = TL.numL b.natAbs := (List.cons.inj (List.cons.inj v).2).1
      simp only [lfL, ea, eb, nt, nb]
      have c : fracB ((t.natAbs : Nat) : Int) ((b.natAbs : Nat) : Int) = true ∧ 1 < b.natAbs := by
        refine ⟨?_, by omega⟩
        unfold fracB
        rw [decide_eq_true (by omega : (0 : Int) < ((b.natAbs : Nat) : Int)), Int.natAbs_natCast, Int.natAbs_natCast, decide_eq_true F.low.cop] <;> rfl
      rw [if_pos c, show ((t.natAbs : Nat) : Int) = t by omega, show ((b.natAbs : Nat) : Int) = b by omega]
    | [], v => exact absurd (congrArg List.length v) (by simp)
    | [_], v => exact absurd (congrArg List.length v) (by simp)
    | _ :: _ :: _ :: _, v => exact absurd (congrArg List.length v) (by simp)
theorem lf_mark {m : Str} (h : markB (lfP m) = true ∨ markB (fracW (TL.tl m)) = true) : lfP m = fracW (TL.tl m) := by
  rcases h with h | h
  · cases e : lfP m with
    | f t b => exact (lf_w e).symm
    | s x => rw [e] at h; cases h
    | i n => rw [e] at h; cases h
    | o => rw [e] at h; cases h
  · cases e : fracW (TL.tl m) with
    | f t b =>
      rw [e] at h
      have k2 := Bool.and_eq_true_iff.mp (Bool.and_eq_true_iff.mp h).2
      have k3 := Bool.and_eq_true_iff.mp k2.1
      have a1 := of_decide_eq_true k2.2
      have a2 := of_decide_eq_true k3.1
      have a3 := of_decide_eq_true k3.2
      exact w_lf e (by omega) (by omega) (by omega)
    | s x => rw [e] at h; cases h
    | i n => rw [e] at h; cases h
    | o => rw [e] at h; cases h
theorem lf_drip {m : Str} (h : dripB (lfP m) = true ∨ dripB (fracW (TL.tl m)) = true) : lfP m = fracW (TL.tl m) := by
  rcases h with h | h
  · cases e : lfP m with
    | f t b => exact (lf_w e).symm
    | s x => rw [e] at h; cases h
    | i n => rw [e] at h; cases h
    | o => rw [e] at h; cases h
  · cases e : fracW (TL.tl m) with
    | f t b =>
      rw [e] at h
      have k2 := Bool.and_eq_true_iff.mp (Bool.and_eq_true_iff.mp h).2
      have k3 := Bool.and_eq_true_iff.mp k2.1
      have a1 := of_decide_eq_true k2.2
      have a2 := of_decide_eq_true k3.1
      have a3 := of_decide_eq_true k3.2
      exact w_lf e (by omega) (by omega) (by omega)
    | s x => rw [e] at h; cases h
    | i n => rw [e] at h; cases h
    | o => rw [e] at h; cases h
theorem lf_ket {n r f m : Str} : kettleB [.s n, numP r, numP f, lfP m] = kettleB [.s n, numP r, numP f, fracW (TL.tl m)] := by
  show (nameB (.s n) && numB 1 1000000 (numP r) && numB 0 10000 (numP f) && markB (lfP m)) = (nameB (.s n) && numB 1 1000000 (numP r) && numB 0 10000 (numP f) && markB (fracW (TL.tl m)))
  congr 1
  cases e1 : markB (lfP m) with
  | true => rw [← lf_mark (.inl e1), e1]
  | false =>
    cases e2 : markB (fracW (TL.tl m)) with
    | false => rfl
    | true =>
      rw [lf_mark (.inr e2), e2] at e1
      cases e1
theorem lf_mou {n r m : Str} : mouldB [.s n, numP r, lfP m] = mouldB [.s n, numP r, fracW (TL.tl m)] := by
  show (nameB (.s n) && numB 1 1000000 (numP r) && dripB (lfP m)) = (nameB (.s n) && numB 1 1000000 (numP r) && dripB (fracW (TL.tl m)))
  congr 1
  cases e1 : dripB (lfP m) with
  | true => rw [← lf_drip (.inl e1), e1]
  | false =>
    cases e2 : dripB (fracW (TL.tl m)) with
    | false => rfl
    | true =>
      rw [lf_drip (.inr e2), e2] at e1
      cases e1
theorem ket_mark {n r f m : Str} (h : kettleB [.s n, numP r, numP f, lfP m] = true) : lfP m = fracW (TL.tl m) := lf_mark (.inl (Bool.and_eq_true_iff.mp h).2)
theorem mou_drip {n r m : Str} (h : mouldB [.s n, numP r, lfP m] = true) : lfP m = fracW (TL.tl m) := lf_drip (.inl (Bool.and_eq_true_iff.mp h).2)
theorem mou5 {a b c d : Pt} : mouldB [a, b, c, d] = false := rfl
theorem ket4 {a b c : Pt} : kettleB [a, b, c] = false := rfl
def sp_l_read_row (K : PySem.W.Frag) : Sp := fun vs H Q _ => ∃ x : Str, vs = [.str x] ∧ x.length ≤ 50000 ∧
  (kettleB (lineP x) = true → ∀ a v H', Same H H' → SqT K H' a [.str "kettle", v] → ThAt K H' v (lineP x) → Q (.ref a) H') ∧
  (kettleB (lineP x) = false → mouldB (lineP x) = true → ∀ a v H', Same H H' → SqT K H' a [.str "mould", v] → ThAt K H' v (lineP x) → Q (.ref a) H') ∧
  (kettleB (lineP x) = false → mouldB (lineP x) = false → ∀ H', Same H H' → Q .non H')
theorem ok_l_read_row (T : All K mg) : FnOk P w K mg base CX0 5 T.f_l_read_row T.fd_l_read_row ["_law_text"] (sp_l_read_row K) := by
  refine T.d_l_read_row.fn.ok sc_l_read_row (fun vs H Q E h => ?_) (fun cdv A outer s H vs Q E hr h => ?_)
  · obtain ⟨x, rfl, _⟩ := h
    rfl
  · obtain ⟨x, rfl, lx, qk, qm, qn⟩ := h
    refine ⟨_, (pss_cons (ps_set (i := 1) sc_l_read_row.nd rfl (by first | exact Or.inl rfl | exact Or.inr rfl) (pe_split (pv 0) pe_str))
      (pss_cons (ps_set (i := 2) sc_l_read_row.nd rfl (by first | exact Or.inl rfl | exact Or.inr rfl) (pe_dget2 (hu_of hr) (pe_disp (pps_cons pe_str pe_int (pps_cons pe_str pe_int pps_nil)) rfl rfl (by simp) (by decide)) (pe_ix (ixL (K := K) rfl) (pv 1) pe_int (fun _ _ => rfl)) pe_int (by exact ⟨rfl, rfl, rfl, rfl⟩)))
      (pss_cons (ps_if (pt_cmpR op_ne (pe_callB (lenQ (K := K) rfl) (by rfl) T.b_len PySem.boot_len (pa_cons (pv 1) pa_nil)) (pv 2) (nomark _)) (pss_one (ps_ret pe_non)) pss_nil)
      (pss_cons (ps_set (i := 3) sc_l_read_row.nd rfl (by first | exact Or.inl rfl | exact Or.inr rfl) (pe_op op_catI (pe_op op_catI (pe_lstI (pa_cons (pe_ix (ixL (K := K) rfl) (pv 1) pe_int (fun _ _ => rfl)) pa_nil)) (pe_lc (own := [("_law_word", 4)]) (g := gName 4) (tt := tYes) (by rfl) sc_l_read_row.nd (pi_listK (K := K) rfl (pe_slice (slL (K := K) rfl) (pv 1) (po_some pe_int) (po_some (pe_un un_neg pe_int)))) (blkOk_by (own := [("_law_word", 4)]) (N := ["_law_text", "_law_words", "_law_sort", "_law_parts", "_law_word"]) (sc := defScope s_l_read_row) (by decide +kernel)) (fun _ _ _ _ _ => (pg_name (i := 4) sc_l_read_row.nd rfl (by first | exact Or.inl rfl | exact Or.inr rfl))) (fun _ _ _ _ _ => pts_nil) (fun _ _ _ _ _ => (pe_call (ok_l_figures T) (hr.mono (by decide)) (by rfl) T.d_l_figures.mg T.d_l_figures.fn.kp T.d_l_figures.b .nil pass0 (pa_cons (pv 4) pa_nil))))) (pe_lstI (pa_cons (pe_call (ok_l_read_frac T) (hr.mono (by decide)) (by rfl) T.d_l_read_frac.mg T.d_l_read_frac.fn.kp T.d_l_read_frac.b .nil pass0 (pa_cons (pe_ix (ixL (K := K) rfl) (pv 1) (pe_un un_neg pe_int) (fun _ _ => rfl)) pa_nil)) pa_nil))))
      (pss_one (ps_ret (pe_ifExp (pt_val (pe_call (ok_l_is_pot T) (hr.mono (by decide)) (by rfl) T.d_l_is_pot.mg T.d_l_is_pot.fn.kp T.d_l_is_pot.b .nil pass0 (pa_cons (pe_callTy (tupI (K := K) rfl) (by rfl) T.b_tuple (by decide +kernel) (pa_cons (pv 3) pa_nil)) (pa_cons (pe_op op_sub (pv 2) pe_int) pa_nil)))) (pe_tupI (pa_cons (pe_ix (ixL (K := K) rfl) (pv 1) pe_int (fun _ _ => rfl)) (pa_cons (pe_callTy (tupI (K := K) rfl) (by rfl) T.b_tuple (by decide +kernel) (pa_cons (pv 3) pa_nil)) pa_nil))) pe_non))))))), ?_⟩
    obtain ⟨ws, esp⟩ : ∃ ws, Txt.split x " " = ws := ⟨_, rfl⟩
    have ne := (split_at blank_at (by decide) x).1
    have hp : ∀ w ∈ Txt.split x " ", w.length ≤ 50000 := fun w hw => Nat.le_trans (words_le hw) lx
    have lns := (split_at blank_at (by decide) x).2.2.2.2
    have er : lineP x = thingP (Txt.split x " ") := rfl
    rw [esp] at ne hp lns er
    rw [er] at qk qm qn
    refine ⟨_, rfl, ⟨_, rfl⟩, _, _, rfl, rfl, rfl, small (by omega), fun wl hwl => ?_⟩
    rw [esp]
    have s1 := same_new (o := .lst (ws.map V.str)) hwl
    have h1 : (upd H wl (.lst (ws.map V.str))) wl = _ := upd_same
    generalize upd H wl (.lst (ws.map V.str)) = H1 at s1 h1
    cases ws with
    | nil => exact absurd rfl ne
    | cons w0 vs =>
    refine fun dd hdd => ?_
    refine ⟨upd_same, [(.inr "kettle", .int 5), (.inr "mould", .int 4)], rfl, by decide, ?_⟩
    have eM : mergeK [] ([(.inr "kettle", .int 5), (.inr "mould", .int 4)] : List (Key × V)) = [(.inr "kettle", .int 5), (.inr "mould", .int 4)] := two_m (by decide +kernel)
    rw [eM]
    have s2 : Same H1 (upd (upd H1 dd (.dK [])) dd (.dK [(.inr "kettle", .int 5), (.inr "mould", .int 4)])) := Same.put (same_new hdd) hdd
    have h2 : (upd (upd H1 dd (.dK [])) dd (.dK [(.inr "kettle", .int 5), (.inr "mould", .int 4)])) dd = _ := upd_same
    generalize upd (upd H1 dd (.dK [])) dd (.dK [(.inr "kettle", .int 5), (.inr "mould", .int 4)]) = H2 at s2 h2
    have hw2 := s2 _ _ h1
    have s02 := s1.trans s2
    refine ⟨dd, rfl, .inl ⟨_, .inl h2⟩, ?_⟩
    refine ⟨_, rfl, wl, _, 0, _, rfl, rfl, SqL.of hw2, at0, ?_⟩
    refine ⟨_, DGet.k (k := .inr w0) h2, ?_⟩
    rw [sort_get]
    refine ⟨_, rfl, wl, _, rfl, .inl (SqL.of hw2), _, rfl, rfl, _, rfl, ?_⟩
    by_cases c1 : w0 = "kettle" ∧ vs.length = 4
    · obtain ⟨rfl, l4⟩ := c1
      obtain ⟨n, r, f, m, rfl⟩ := len4 l4
      have eS : sortN "kettle" = 5 := if_pos rfl
      rw [eS, decide_eq_true (show V.int ((([("kettle" : Str), n, r, f, m].map V.str).length : Nat) : Int) = V.int 5 from rfl)]
      rw [thingP_k] at qk qm qn
      refine iteF ?_
      refine ⟨_, rfl, wl, _, 1, _, rfl, rfl, SqL.of hw2, at1, rfl, fun l1 H3 s3 n3 h3 => ?_⟩
      have hw3 := s3 _ _ hw2
      refine ⟨_, rfl, _, rfl, _, rfl, _, rfl, wl, _, rfl, SqL.of hw3, fun p H4 s4 n4 h4 => ?_⟩
      have e4 : cutV ([("kettle" : Str), n, r, f, m].map V.str) (some 2) (some (-1)) = ([r, f].map V.str) := rfl
      have h4 : H4 p = some (.lst ([r, f].map V.str)) := by rw [h4, ← e4] <;> rfl
      refine ⟨p, rfl, ⟨_, SqL.of h4⟩, fun D hD => ?_⟩
      refine lc_list (K := K) (a := p) (xs := [r, f].map V.str) (fun j H' => Same H4 H' ∧ H' D = some (.lst (([r, f].take j).map fun w => optN (numN (TL.tl w))))) ⟨same_new hD, upd_same⟩ (fun j H' _ e => SqL.of (e.1 _ _ h4)) ?_ ?_
      · rintro j y H5 hj ⟨s5, h5⟩
        obtain ⟨b, hb, rfl⟩ : ∃ b, [r, f][j]? = some b ∧ y = V.str b := by
          rw [List.getElem?_map] at hj
          cases e : [r, f][j]? with
          | none => rw [e] at hj; cases hj
          | some b => rw [e] at hj; exact ⟨b, rfl, (Option.some.inj hj).symm⟩
        have jl := (List.getElem?_eq_some_iff.mp hb).1
        have bl : b.length ≤ 50000 := hp b (by have := List.mem_of_getElem? hb; simp at this; rcases this with rfl | rfl <;> simp)
        refine ⟨rfl, yesT ?_⟩
        refine ⟨_, rfl, b, rfl, bl, fun H6 s6 => ?_⟩
        refine ⟨_, s6 _ _ h5, by rw [List.length_map, List.length_take]; exact small' (Nat.lt_of_le_of_lt (Nat.min_le_left _ _) (Nat.lt_of_lt_of_le jl (by simp))), Same.put (s5.trans s6) hD, ?_⟩
        rw [upd_same, take_one hb, List.map_append]
        rfl
      · rintro H5 ⟨s5, h5⟩
        rw [List.length_map, List.take_length] at h5
        have s35 := s4.trans s5
        refine ⟨l1, D, _, _, rfl, rfl, s35 _ _ h3, h5, small (by simp), fun c H6 s6 n6 h6 => ?_⟩
        have hw6 := s6 _ _ (s35 _ _ hw3)
        refine ⟨_, rfl, _, rfl, wl, _, -1, V.str m, rfl, rfl, SqL.of hw6, rfl, m, rfl, hp m (by simp), fun v H7 s7 pm => ⟨rfl, fun l2 H8 s8 n8 h8 => ?_⟩⟩
        have h68 := s8 _ _ (s7 _ _ h6)
        refine ⟨c, l2, _, _, rfl, rfl, h68, h8, small (by simp), fun e H9 s9 n9 h9 => ?_⟩
        have s39 := s35.trans (s6.trans (s7.trans (s8.trans s9)))
        have s09 := s02.trans (s3.trans s39)
        have hw9 := s39 _ _ hw3
        have TH : ∀ {t : Addr} {Hz : Hp}, Same H9 Hz → SqT K Hz t ([V.str n] ++ ([r, f].map fun w => optN (numN (TL.tl w))) ++ [v]) → ThAt K Hz (.ref t) [.s n, numP r, numP f, lfP m] := fun sz h => ⟨_, _, rfl, h, .cons ⟨rfl, Nat.le_trans (hp n (by simp)) (by decide)⟩ (.cons (pt_num r) (.cons (pt_num f) (.cons ((pm.tk (.same (s8.trans s9))).tk (.same sz)) .nil))), by show 4 ≤ 1000; decide⟩
        refine ⟨_, rfl, e, _, rfl, .inl ⟨SqL.of h9, fun t Ha sa na ha => ?_⟩⟩
        refine ⟨_, rfl, _, _, rfl, rfl, _, _, _, rfl, TH sa (SqT.of ha), .inl ⟨rfl, fun Hb sb => ⟨_, rfl, ?_⟩⟩⟩
        rw [lf_ket]
        have s9b := sa.trans sb
        cases cK : kettleB [.s n, numP r, numP f, fracW (TL.tl m)] with
        | false => exact iteF (qn cK rfl Hb (s09.trans s9b))
        | true =>
          refine iteT ?_
          refine ⟨_, rfl, wl, _, 0, _, rfl, rfl, SqL.of (s9b _ _ hw9), at0, _, rfl, e, _, rfl, .inl ⟨SqL.of (s9b _ _ h9), fun t2 Hc sc nc hc => ⟨rfl, fun a Hd sd nd hd => ?_⟩⟩⟩
          have em : lfP m = fracW (TL.tl m) := ket_mark (by rw [lf_ket]; exact cK)
          have th := TH (s9b.trans (sc.trans sd)) (Same.tup sd (SqT.of hc))
          rw [em] at th
          exact qk cK a (.ref t2) Hd (s09.trans (s9b.trans (sc.trans sd))) (SqT.of hd) th
    by_cases c2 : w0 = "mould" ∧ vs.length = 3
    · obtain ⟨rfl, l3⟩ := c2
      obtain ⟨n, r, m, rfl⟩ := len3 l3
      have eS : sortN "mould" = 4 := by decide +kernel
      rw [eS, decide_eq_true (show V.int ((([("mould" : Str), n, r, m].map V.str).length : Nat) : Int) = V.int 4 from rfl)]
      rw [thingP_m] at qk qm qn
      refine iteF ?_
      refine ⟨_, rfl, wl, _, 1, _, rfl, rfl, SqL.of hw2, at1, rfl, fun l1 H3 s3 n3 h3 => ?_⟩
      have hw3 := s3 _ _ hw2
      refine ⟨_, rfl, _, rfl, _, rfl, _, rfl, wl, _, rfl, SqL.of hw3, fun p H4 s4 n4 h4 => ?_⟩
      have e4 : cutV ([("mould" : Str), n, r, m].map V.str) (some 2) (some (-1)) = ([r].map V.str) := rfl
      have h4 : H4 p = some (.lst ([r].map V.str)) := by rw [h4, ← e4] <;> rfl
      refine ⟨p, rfl, ⟨_, SqL.of h4⟩, fun D hD => ?_⟩
      refine lc_list (K := K) (a := p) (xs := [r].map V.str) (fun j H' => Same H4 H' ∧ H' D = some (.lst (([r].take j).map fun w => optN (numN (TL.tl w))))) ⟨same_new hD, upd_same⟩ (fun j H' _ e => SqL.of (e.1 _ _ h4)) ?_ ?_
      · rintro j y H5 hj ⟨s5, h5⟩
        obtain ⟨b, hb, rfl⟩ : ∃ b, [r][j]? = some b ∧ y = V.str b := by
          rw [List.getElem?_map] at hj
          cases e : [r][j]? with
          | none => rw [e] at hj; cases hj
          | some b => rw [e] at hj; exact ⟨b, rfl, (Option.some.inj hj).symm⟩
        have jl := (List.getElem?_eq_some_iff.mp hb).1
        have bl : b.length ≤ 50000 := hp b (by have := List.mem_of_getElem? hb; simp at this; rcases this with rfl <;> simp)
        refine ⟨rfl, yesT ?_⟩
        refine ⟨_, rfl, b, rfl, bl, fun H6 s6 => ?_⟩
        refine ⟨_, s6 _ _ h5, by rw [List.length_map, List.length_take]; exact small' (Nat.lt_of_le_of_lt (Nat.min_le_left _ _) (Nat.lt_of_lt_of_le jl (by simp))), Same.put (s5.trans s6) hD, ?_⟩
        rw [upd_same, take_one hb, List.map_append]
        rfl
      · rintro H5 ⟨s5, h5⟩
        rw [List.length_map, List.take_length] at h5
        have s35 := s4.trans s5
        refine ⟨l1, D, _, _, rfl, rfl, s35 _ _ h3, h5, small (by simp), fun c H6 s6 n6 h6 => ?_⟩
        have hw6 := s6 _ _ (s35 _ _ hw3)
        refine ⟨_, rfl, _, rfl, wl, _, -1, V.str m, rfl, rfl, SqL.of hw6, rfl, m, rfl, hp m (by simp), fun v H7 s7 pm => ⟨rfl, fun l2 H8 s8 n8 h8 => ?_⟩⟩
        have h68 := s8 _ _ (s7 _ _ h6)
        refine ⟨c, l2, _, _, rfl, rfl, h68, h8, small (by simp), fun e H9 s9 n9 h9 => ?_⟩
        have s39 := s35.trans (s6.trans (s7.trans (s8.trans s9)))
        have s09 := s02.trans (s3.trans s39)
        have hw9 := s39 _ _ hw3
        have TH : ∀ {t : Addr} {Hz : Hp}, Same H9 Hz → SqT K Hz t ([V.str n] ++ ([r].map fun w => optN (numN (TL.tl w))) ++ [v]) → ThAt K Hz (.ref t) [.s n, numP r, lfP m] := fun sz h => ⟨_, _, rfl, h, .cons ⟨rfl, Nat.le_trans (hp n (by simp)) (by decide)⟩ (.cons (pt_num r) (.cons ((pm.tk (.same (s8.trans s9))).tk (.same sz)) .nil)), by show 3 ≤ 1000; decide⟩
        refine ⟨_, rfl, e, _, rfl, .inl ⟨SqL.of h9, fun t Ha sa na ha => ?_⟩⟩
        refine ⟨_, rfl, _, _, rfl, rfl, _, _, _, rfl, TH sa (SqT.of ha), .inr ⟨rfl, fun Hb sb => ⟨_, rfl, ?_⟩⟩⟩
        rw [lf_mou]
        have s9b := sa.trans sb
        cases cK : mouldB [.s n, numP r, fracW (TL.tl m)] with
        | false => exact iteF (qn rfl cK Hb (s09.trans s9b))
        | true =>
          refine iteT ?_
          refine ⟨_, rfl, wl, _, 0, _, rfl, rfl, SqL.of (s9b _ _ hw9), at0, _, rfl, e, _, rfl, .inl ⟨SqL.of (s9b _ _ h9), fun t2 Hc sc nc hc => ⟨rfl, fun a Hd sd nd hd => ?_⟩⟩⟩
          have em : lfP m = fracW (TL.tl m) := mou_drip (by rw [lf_mou]; exact cK)
          have th := TH (s9b.trans (sc.trans sd)) (Same.tup sd (SqT.of hc))
          rw [em] at th
          exact qm rfl cK a (.ref t2) Hd (s09.trans (s9b.trans (sc.trans sd))) (SqT.of hd) th
    have e0 : thingP (w0 :: vs) = [] := thingP_no (fun us e l => c1 ⟨(List.cons.inj e).1, by rw [(List.cons.inj e).2]; exact l⟩) (fun us e l => c2 ⟨(List.cons.inj e).1, by rw [(List.cons.inj e).2]; exact l⟩)
    rw [e0] at qn
    rw [decide_eq_false (show ¬ V.int ((((w0 :: vs).map V.str).length : Nat) : Int) = V.int (sortN w0) from fun z => by
      have z2 := V.int.inj z
      rw [List.length_map, List.length_cons] at z2
      unfold sortN at z2
      by_cases k1 : w0 = "kettle"
      · rw [if_pos k1] at z2
        exact c1 ⟨k1, by omega⟩
      · rw [if_neg k1] at z2
        by_cases k2 : w0 = "mould"
        · rw [if_pos k2] at z2
          exact c2 ⟨k2, by omega⟩
        · rw [if_neg k2] at z2
          omega)]
    exact iteT (qn rfl rfl H2 s02)

end
end KR
namespace KR
open PySem PySem.Spec PyProof.Rows L2
section
variable {P : Program} {w : World} {K : PySem.W.Frag} {mg : Str → Option Value} {base : Heap}
theorem stand_no {ps : List Pt} {a b : List (List Pt)} (h1 : kettleB ps = false) (h2 : mouldB ps = false) : standB ps a b = false := by
  unfold standB
  rw [h1, if_neg Bool.false_ne_true, h2, Bool.false_and, Bool.false_and]
theorem stand_k {ps : List Pt} {a b : List (List Pt)} (h1 : kettleB ps = true) : standB ps a b = ((b.isEmpty && decide (a.length < 8)) && !decide (nmO ps ∈ (a ++ b).map nmO)) := by
  unfold standB
  rw [if_pos h1]
theorem stand_m {ps : List Pt} {a b : List (List Pt)} (h1 : kettleB ps = false) (h2 : mouldB ps = true) : standB ps a b = (decide (b.length < 40) && !decide (nmO ps ∈ (a ++ b).map nmO)) := by
  unfold standB
  rw [h1, if_neg Bool.false_ne_true, h2, Bool.true_and]
theorem ket_lay {ps : List Pt} (h : kettleB ps = true) : ∀ p ∈ ps, p.lay := by
  obtain ⟨x, r, f, t, b, rfl, kv⟩ := kettleB_v h
  intro p hp
  simp at hp
  rcases hp with rfl | rfl | rfl | rfl
  · exact kv.nm.lay
  · trivial
  · trivial
  · trivial
theorem mou_lay {ps : List Pt} (h : mouldB ps = true) : ∀ p ∈ ps, p.lay := by
  obtain ⟨x, r, t, b, rfl, kv⟩ := mouldB_v h
  intro p hp
  simp at hp
  rcases hp with rfl | rfl | rfl
  · exact kv.nm.lay
  · trivial
  · trivial
theorem ne_nil {K : PySem.W.Frag} {H : Hp} {Q : VK} {a l : Addr} {vs : List V} {pss : List (List Pt)} (h : H a = some (.lst vs)) (A : ThsAt K H vs pss) (lay : ∀ ps ∈ pss, ∀ p ∈ ps, p.lay) (le : pss.length ≤ 50) (h0 : H l = some (.lst [])) (q : Q (.bl (!pss.isEmpty)) H) : rNeD K (.ref a) (.ref l) H Q := by
  have D := A.dk lay
  have ln := A.len
  have D1 : Dk K H 4 (.ref a) (.list (pss.map thD)) := .lst h D.1 (by omega) D.2
  have D2 : Dk K H 4 (.ref l) (.list []) := .lst h0 rfl (Nat.zero_le _) (fun i x d e => by simp at e)
  obtain ⟨a1, a2, a3⟩ := dk_plain D1
  obtain ⟨b1, b2, b3⟩ := dk_plain D2
  have sh : ∀ {d : PyData}, d.canLay0 = true → d.depth ≤ 4 → SeqAt.shaped d = true := fun {d} h1 h2 => by
    show (PyData.canLay0 d && decide (PyData.depth d ≤ 64)) = true
    rw [h1, decide_eq_true (by omega)] <;> rfl
  refine ⟨_, _, a1, b1, sh a2 a3, sh b2 b3, ?_⟩
  have e : PyData.eqv (.list (pss.map thD)) (.list []) = pss.isEmpty := by cases pss <;> rfl
  rw [e]
  exact q
theorem nmz {K : PySem.W.Frag} {H : Hp} {ks ms : List V} {st : StP} (AK : ThsAt K H ks st.1) (AM : ThsAt K H ms st.2) (G : GoodSt st) {j : Nat} {y : V} (hy : (ks ++ ms)[j]? = some y) : ∃ (x : Str) (b : Addr) (zs : List V), ((st.1 ++ st.2).map nmO)[j]? = some x ∧ y = .ref b ∧ SqT K H b (.str x :: zs) := by
  have lk := AK.len
  rw [List.map_append]
  by_cases lt : j < ks.length
  · rw [List.getElem?_append_left lt] at hy
    obtain ⟨qs, hq, th⟩ := AK.get hy
    obtain ⟨x, d, _, en, b, zs, e, h1⟩ := th.ket (G.k qs (List.mem_of_getElem? hq))
    exact ⟨x, b, zs, by rw [List.getElem?_append_left (by rw [List.length_map, ← lk]; exact lt), List.getElem?_map, hq, ← en] <;> rfl, e, h1⟩
  · rw [List.getElem?_append_right (by omega)] at hy
    obtain ⟨qs, hq, th⟩ := AM.get hy
    obtain ⟨x, d, _, en, b, zs, e, h1⟩ := th.mou (G.m qs (List.mem_of_getElem? hq))
    exact ⟨x, b, zs, by rw [List.getElem?_append_right (by rw [List.length_map]; omega), List.length_map, ← lk, List.getElem?_map, hq, ← en] <;> rfl, e, h1⟩
def sp_l_read (K : PySem.W.Frag) : Sp := fun vs H Q _ => ∃ x : Str, vs = [.str x] ∧ x.length ≤ 50000 ∧
  (∀ n : Nat, readP x = .inl n → ∀ H', Same H H' → Q (.int (n : Int)) H') ∧
  (∀ kss mss, readP x = .inr (kss, mss) → ∀ (a kl ml : Addr) (ks ms : List V) (H' : Hp), Same H H' → SqT K H' a [.ref kl, .ref ml] → SqL K H' kl ks → ThsAt K H' ks kss → SqL K H' ml ms → ThsAt K H' ms mss → Q (.ref a) H')
theorem ok_l_read (T : All K mg) : FnOk P w K mg base CX0 6 T.f_l_read T.fd_l_read ["_law_text"] (sp_l_read K) := by
  refine T.d_l_read.fn.ok sc_l_read (fun vs H Q E h => ?_) (fun cdv A outer s H vs Q E hr h => ?_)
  · obtain ⟨x, rfl, _⟩ := h
    rfl
  · obtain ⟨tx, rfl, ltx, qB, qG⟩ := h
    refine ⟨_, (pss_cons (ps_set (i := 1) sc_l_read.nd rfl (by first | exact Or.inl rfl | exact Or.inr rfl) (pe_disp (pps_cons pe_str (pe_lstI pa_nil) (pps_cons pe_str (pe_lstI pa_nil) pps_nil)) rfl rfl (by simp) (by decide)))
      (pss_cons (ps_for PassesOwn.never rfl (pi_enumK (K := K) rfl (by rfl) T.b_enumerate (pa_cons (pe_split (pv 0) pe_str) pa_nil)) (pg_tupK (K := K) rfl rfl (pgs_cons (pg_name (i := 2) sc_l_read.nd rfl (by first | exact Or.inl rfl | exact Or.inr rfl)) (pgs_cons (pg_name (i := 3) sc_l_read.nd rfl (by first | exact Or.inl rfl | exact Or.inr rfl)) pgs_nil))) (pss_cons (ps_set (i := 4) sc_l_read.nd rfl (by first | exact Or.inl rfl | exact Or.inr rfl) (pe_call (ok_l_read_row T) hr (by rfl) T.d_l_read_row.mg T.d_l_read_row.fn.kp T.d_l_read_row.b .nil pass0 (pa_cons (pv 3) pa_nil)))
      (pss_cons (ps_if (PW.pt (pw_or (pt_cmpR op_isN (pv 4) pe_non (nomark _)) (pw_or1 (pt_cmpR (inQ (K := K) rfl) (pe_ix (ixQ (K := K) rfl) (pe_ix (ixQ (K := K) rfl) (pv 4) pe_int (fun _ _ => rfl)) pe_int (fun _ _ => rfl)) (pe_lc (own := [("_law_pot", 5)]) (g := gName 5) (tt := tYes) (by rfl) sc_l_read.nd (pi_listK (K := K) rfl (pe_op op_catI (pe_dget (hu_of hr) (pv 1) pe_str (fun _ _ => rfl)) (pe_dget (hu_of hr) (pv 1) pe_str (fun _ _ => rfl)))) (blkOk_by (own := [("_law_pot", 5)]) (N := ["_law_text", "_law_pots", "_law_number", "_law_one", "_law_told", "_law_pot"]) (sc := defScope s_l_read) (by decide +kernel)) (fun _ _ _ _ _ => (pg_name (i := 5) sc_l_read.nd rfl (by first | exact Or.inl rfl | exact Or.inr rfl))) (fun _ _ _ _ _ => pts_nil) (fun _ _ _ _ _ => (pe_ix (ixT (K := K) rfl) (pv 5) pe_int (fun _ _ => rfl)))) (by with_unfolding_all rfl))))) (pss_one (ps_ret (pv 2))) pss_nil)
      (pss_cons (ps_expr (pe_bm PySem.F.plainAttrs_list PySem.F.slot_list_append PySem.F.type_list_append mt_append (pe_dget (hu_of hr) (pv 1) (pe_ix (ixQ (K := K) rfl) (pv 4) pe_int (fun _ _ => rfl)) (fun _ _ => rfl)) (pa_cons (pe_ix (ixQ (K := K) rfl) (pv 4) pe_int (fun _ _ => rfl)) pa_nil)))
      (pss_one (ps_if (PW.pt (pw_or (PW.pt (pw_and (pt_cmpR op_eq (pe_ix (ixQ (K := K) rfl) (pv 4) pe_int (fun _ _ => rfl)) pe_str (nomark _)) (pw_and1 (pt_cmpR (neDK (K := K) rfl hr.units) (pe_dget (hu_of hr) (pv 1) pe_str (fun _ _ => rfl)) (pe_lstI pa_nil) (nomark _))))) (pw_or (pt_cmpR op_gt (pe_callB (lenQ (K := K) rfl) (by rfl) T.b_len PySem.boot_len (pa_cons (pe_dget (hu_of hr) (pv 1) pe_str (fun _ _ => rfl)) pa_nil)) pe_int (nomark _)) (pw_or1 (pt_cmpR op_gt (pe_callB (lenQ (K := K) rfl) (by rfl) T.b_len PySem.boot_len (pa_cons (pe_dget (hu_of hr) (pv 1) pe_str (fun _ _ => rfl)) pa_nil)) pe_int (nomark _)))))) (pss_one (ps_ret (pv 2))) pss_nil))))))
      (pss_one (ps_ret (pe_ifExp (pt_cmpR (neDK (K := K) rfl hr.units) (pe_dget (hu_of hr) (pv 1) pe_str (fun _ _ => rfl)) (pe_lstI pa_nil) (nomark _)) (pe_tupI (pa_cons (pe_dget (hu_of hr) (pv 1) pe_str (fun _ _ => rfl)) (pa_cons (pe_dget (hu_of hr) (pv 1) pe_str (fun _ _ => rfl)) pa_nil))) (pe_callB (lenQ (K := K) rfl) (by rfl) T.b_len PySem.boot_len (pa_cons (pe_split (pv 0) pe_str) pa_nil))))))), ?_⟩
    obtain ⟨ls, esp⟩ : ∃ ls, Txt.split tx "\n" = ls := ⟨_, rfl⟩
    have ne := (split_at feed_at (by decide) tx).1
    have lns := (split_at feed_at (by decide) tx).2.2.2.2
    have hpl : ∀ l ∈ Txt.split tx "\n", l.length ≤ 50000 := fun l hl => Nat.le_trans (lines_le hl) ltx
    have er : readP tx = goP 0 ([], []) ((Txt.split tx "\n").map lineP) := rfl
    rw [esp] at ne lns hpl er
    refine fun dd hdd => ?_
    have hd0 : (upd H dd (.dK ([] : List (Key × V)))) dd = some (.dK []) := upd_same
    have z0 : Same H (upd H dd (.dK ([] : List (Key × V)))) := same_new hdd
    refine ⟨rfl, fun kl X1 s1 n1 e1 => ⟨rfl, fun ml X2 s2 n2 e2 => ?_⟩⟩
    have hd2 := s2 _ _ (s1 _ _ hd0)
    have hk2 := s2 _ _ e1
    refine ⟨hd2, [(.inr "kettle", .ref kl), (.inr "mould", .ref ml)], rfl, by show 2 ≤ 15; decide, ?_⟩
    have eM : mergeK [] ([(.inr "kettle", .ref kl), (.inr "mould", .ref ml)] : List (Key × V)) = [(.inr "kettle", .ref kl), (.inr "mould", .ref ml)] := two_m (by decide +kernel)
    rw [eM]
    have old : ∀ {b : Addr} {Ha : Hp}, Same H Ha → Ha b = none → H b = none := fun {b Ha} sm nb => by
      cases e : H b with
      | none => rfl
      | some o => rw [sm _ _ e] at nb; cases nb
    have nk := old z0 n1
    have nm := old (z0.trans s1) n2
    have dk : kl ≠ dd := (ne_of_none hd0 n1).symm
    have dm : ml ≠ dd := (ne_of_none (s1 _ _ hd0) n2).symm
    have kml : kl ≠ ml := ne_of_none e1 n2
    have z3 : Same H (upd X2 dd (.dK [(.inr "kettle", .ref kl), (.inr "mould", .ref ml)])) := Same.put (z0.trans (s1.trans s2)) hdd
    have d3 : (upd X2 dd (.dK [(.inr "kettle", .ref kl), (.inr "mould", .ref ml)])) dd = _ := upd_same
    have k3 : (upd X2 dd (.dK [(.inr "kettle", .ref kl), (.inr "mould", .ref ml)])) kl = some (.lst []) := by rw [upd_ne dk]; exact hk2
    have m3 : (upd X2 dd (.dK [(.inr "kettle", .ref kl), (.inr "mould", .ref ml)])) ml = some (.lst []) := by rw [upd_ne dm]; exact e2
    generalize upd X2 dd (.dK [(.inr "kettle", .ref kl), (.inr "mould", .ref ml)]) = X3 at z3 d3 k3 m3
    have getK : ∀ {Ha : Hp}, Ha dd = some (.dK [(.inr "kettle", .ref kl), (.inr "mould", .ref ml)]) → DGet Ha dd (.str "kettle") (some (.ref kl)) := fun h => by
      have g := DGet.k (k := .inr "kettle") h
      rw [valV_pos rfl] at g
      exact g
    have getM : ∀ {Ha : Hp}, Ha dd = some (.dK [(.inr "kettle", .ref kl), (.inr "mould", .ref ml)]) → DGet Ha dd (.str "mould") (some (.ref ml)) := fun h => by
      have g := DGet.k (k := .inr "mould") h
      rw [valV_neg (show ¬ (Sum.inr ("kettle" : Str) : Key) = Sum.inr ("mould" : Str) by decide +kernel), valV_pos rfl] at g
      exact g
    refine ⟨_, rfl, ⟨_, rfl⟩, _, _, rfl, rfl, rfl, small (by omega), fun ll hll => ?_⟩
    rw [esp]
    have s4 := same_new (o := .lst (ls.map V.str)) hll
    have h4 : (upd X3 ll (.lst (ls.map V.str))) ll = _ := upd_same
    have d4 := s4 _ _ d3
    have k4 := s4 _ _ k3
    have m4 := s4 _ _ m3
    have lk : ll ≠ kl := (ne_of_none k3 hll).symm
    have lm : ll ≠ ml := (ne_of_none m3 hll).symm
    generalize upd X3 ll (.lst (ls.map V.str)) = X4 at s4 h4 d4 k4 m4
    refine ⟨ll, _, rfl, SqL.of h4, ?_⟩
    refine for_enum (K := K) (a := ll) (xs := ls.map V.str) (fun i σ H' => ∃ (v2 v3 v4 v5 : Option V) (ks ms : List V) (st : StP), σ = [some (.str tx), some (.ref dd), v2, v3, v4, v5] ∧ Same H H' ∧ H' ll = some (.lst (ls.map V.str)) ∧ H' dd = some (.dK [(.inr "kettle", .ref kl), (.inr "mould", .ref ml)]) ∧ H' kl = some (.lst ks) ∧ H' ml = some (.lst ms) ∧ ThsAt K H' ks st.1 ∧ ThsAt K H' ms st.2 ∧ GoodSt st ∧ readP tx = goP i st ((ls.map lineP).drop i))
      ⟨_, _, _, _, [], [], ([], []), rfl, z3.trans s4, h4, d4, k4, m4, .nil, .nil, good_nil, er⟩ (fun i σ H' _ ⟨_, _, _, _, _, _, _, _, _, z, _⟩ => SqL.of z) ?_ ?_
    · rintro i v tp σ Ha hv ntp ⟨v2, v3, v4, v5, ks, ms, st, rfl, sm, hll, hdd', hkl, hml, AK, AM, G, er⟩
      obtain ⟨b, hb, rfl⟩ : ∃ b, ls[i]? = some b ∧ v = V.str b := by
        rw [List.getElem?_map] at hv
        cases e : ls[i]? with
        | none => rw [e] at hv; cases hv
        | some b => rw [e] at hv; exact ⟨b, rfl, (Option.some.inj hv).symm⟩
      have lb := hpl b (List.mem_of_getElem? hb)
      obtain ⟨li, ei⟩ := List.getElem?_eq_some_iff.mp hb
      rw [List.drop_eq_getElem_cons (by rw [List.length_map]; exact li), List.getElem_map, ei] at er
      have st' := same_new (o := .tup [.int (i : Nat), V.str b]) ntp
      have ht : (upd Ha tp (.tup [.int (i : Nat), V.str b])) tp = _ := upd_same
      generalize upd Ha tp (.tup [.int (i : Nat), V.str b]) = Hb at st' ht
      refine ⟨tp, _, rfl, SqT.of ht, rfl, _, _, rfl, _, _, rfl, rfl, ?_⟩
      have k8 := G.k8
      have m40 := G.m40
      have lks := AK.len
      have lms := AM.len
      refine ⟨_, rfl, b, rfl, lb, fun cK a v Hc sc ha th => ?_, fun cK cM a v Hc sc ha th => ?_, fun cK cM Hc sc => ?_⟩
      case' refine_3 =>
        rw [goP_none (show stepP st (lineP b) = none by unfold stepP; rw [stand_no cK cM, if_neg Bool.false_ne_true])] at er
        refine ⟨_, rfl, rfl, _, rfl, ?_⟩
        rw [decide_eq_true rfl]
        refine iteT (iteT ?_)
        exact ⟨_, rfl, qB i er Hc (sm.trans (st'.trans sc))⟩
      · refine ⟨_, rfl, rfl, _, rfl, ?_⟩
        rw [decide_eq_false (show ¬ V.ref a = V.non from nofun)]
        refine iteF ?_
        obtain ⟨y, d, _, en, p, zs, rfl, hp⟩ := th.ket cK
        have sac := st'.trans sc
        have smc := sm.trans sac
        have hdc := sac _ _ hdd'
        have hkc := sac _ _ hkl
        have hmc := sac _ _ hml
        refine ⟨_, rfl, .inr (.inl ⟨a, _, 1, _, rfl, rfl, ha, at1, .inr (.inl ⟨p, _, 0, _, rfl, rfl, hp, at0, ?_⟩)⟩)⟩
        refine ⟨_, rfl, dd, _, rfl, getK hdc, _, rfl, dd, _, rfl, getM hdc, kl, ml, ks, ms, rfl, rfl, hkc, hmc, small (by omega), fun c H2 s2 n2 h2 => ⟨c, rfl, ⟨_, SqL.of h2⟩, fun D hD => ?_⟩⟩
        refine lc_list (K := K) (a := c) (xs := ks ++ ms) (fun j H3 => Same H2 H3 ∧ H3 D = some (.lst ((((st.1 ++ st.2).map nmO).take j).map V.str))) ⟨same_new hD, upd_same⟩ (fun j H3 _ z => SqL.of (z.1 _ _ h2)) (fun j y H3 hy z => ?_) (fun H3 z => ?_)
        · obtain ⟨s3, l3⟩ := z
          have jl := (List.getElem?_eq_some_iff.mp hy).1
          rw [List.length_append] at jl
          obtain ⟨x2, b2, zs2, hx, rfl, h1⟩ := nmz AK AM G hy
          refine ⟨rfl, yesT ?_⟩
          refine ⟨_, rfl, b2, _, 0, _, rfl, rfl, Same.tup (sac.trans (s2.trans s3)) h1, at0, ?_⟩
          refine ⟨_, l3, by rw [List.length_map]; exact small' (by rw [List.length_take]; omega), Same.put s3 hD, ?_⟩
          rw [upd_same, take_one hx]
          exact congrArg (fun z => some (HO.lst z)) (List.map_append (f := V.str) (l₂ := [x2])).symm
        · obtain ⟨s3, l3⟩ := z
          have ln : (ks ++ ms).length = ((st.1 ++ st.2).map nmO).length := by rw [List.length_map, List.length_append, List.length_append, lks, lms]
          rw [ln, List.take_length] at l3
          have sc3 := s2.trans s3
          have hk3 := sc3 _ _ hkc
          have hm3 := sc3 _ _ hmc
          have hd3 := sc3 _ _ hdc
          have ha3 := Same.tup sc3 ha
          refine ⟨D, _, rfl, .inl (SqL.of l3), rfl, flat_strs _, ?_⟩
          rw [in_strs, ← en]
          refine ⟨_, rfl, ?_⟩
          by_cases cin : nmO (lineP b) ∈ (st.1 ++ st.2).map nmO
          · rw [decide_eq_true cin]
            have no : standB (lineP b) st.1 st.2 = false := by rw [stand_k cK, decide_eq_true cin, Bool.not_true, Bool.and_false]
            rw [goP_none (show stepP st (lineP b) = none by unfold stepP; rw [no, if_neg Bool.false_ne_true])] at er
            exact iteT ⟨_, rfl, qB i er H3 (smc.trans sc3)⟩
          rw [decide_eq_false cin]
          refine iteF ?_
          refine ⟨_, rfl, _, rfl, .inr (.inl ⟨a, _, 0, _, rfl, rfl, ha3, at0, dd, _, rfl, getK hd3, .inl ⟨rfl, _, SqL.of hk3⟩, _, rfl, .inr (.inl ⟨a, _, 1, _, rfl, rfl, ha3, at1, kl, _, _, rfl, rfl, hk3, small' (by omega), ?_⟩)⟩)⟩
          have th3 := th.tk (.same sc3)
          have hl3 := sc3 _ _ (sac _ _ hll)
          have tk : TK K H3 (upd H3 kl (.lst (ks ++ [.ref p]))) := TK.upd hk3 (fun xs z => by cases z) (fun b y z => by cases z)
          have z4 : Same H (upd H3 kl (.lst (ks ++ [.ref p]))) := Same.put (smc.trans sc3) nk
          have d4' : (upd H3 kl (.lst (ks ++ [.ref p]))) dd = some (.dK [(.inr "kettle", .ref kl), (.inr "mould", .ref ml)]) := by rw [upd_ne dk.symm]; exact hd3
          have x4' : (upd H3 kl (.lst (ks ++ [.ref p]))) kl = _ := upd_same
          have o4' : (upd H3 kl (.lst (ks ++ [.ref p]))) ml = some (.lst ms) := by rw [upd_ne kml.symm]; exact hm3
          have l4' : (upd H3 kl (.lst (ks ++ [.ref p]))) ll = some (.lst (ls.map V.str)) := by rw [upd_ne lk]; exact hl3
          have a4' : SqT K (upd H3 kl (.lst (ks ++ [.ref p]))) a [.str "kettle", .ref p] := tk _ _ ha3
          have AX4 := ((AK.tk (.same (sac.trans sc3))).cat (.cons th3 .nil)).tk tk
          have AO4 := (AM.tk (.same (sac.trans sc3))).tk tk
          generalize upd H3 kl (.lst (ks ++ [.ref p])) = H4 at z4 d4' x4' o4' l4' a4' AX4 AO4
          have lx4 : ((ks ++ [V.ref p]).length : Nat) = ks.length + 1 := by rw [List.length_append] <;> rfl
          refine ⟨_, rfl, .inr (.inl ⟨a, _, 0, _, rfl, rfl, a4', at0, rfl, _, rfl, ?_⟩)⟩
          rw [decide_eq_true rfl]
          refine iteT ?_
          refine ⟨_, rfl, dd, _, rfl, getM d4', rfl, fun l0 H5 s5 n5 h5 => ?_⟩
          refine ne_nil (s5 _ _ o4') (AO4.tk (.same s5)) (fun ps hps => mou_lay (G.m ps hps)) (by omega) h5 ?_
          refine ⟨_, rfl, ?_⟩
          have z5 := z4.trans s5
          cases eM2 : st.2.isEmpty with
          | false =>
            have no : standB (lineP b) st.1 st.2 = false := by rw [stand_k cK, eM2, Bool.false_and, Bool.false_and]
            rw [goP_none (show stepP st (lineP b) = none by unfold stepP; rw [no, if_neg Bool.false_ne_true])] at er
            exact iteT (iteT ⟨_, rfl, qB i er H5 z5⟩)
          | true =>
            refine iteF ?_
            refine ⟨_, rfl, dd, _, rfl, getK (s5 _ _ d4'), kl, _, rfl, .inl (SqL.of (s5 _ _ x4')), _, _, rfl, rfl, _, rfl, ?_⟩
            by_cases c8 : st.1.length < 8
            · rw [decide_eq_false (show ¬ (8 : Int) < (((ks ++ [V.ref p]).length : Nat) : Int) by rw [lx4]; omega)]
              refine iteF ?_
              refine ⟨_, rfl, dd, _, rfl, getM (s5 _ _ d4'), ml, _, rfl, .inl (SqL.of (s5 _ _ o4')), _, _, rfl, rfl, _, rfl, ?_⟩
              rw [decide_eq_false (show ¬ (40 : Int) < ((ms.length : Nat) : Int) by omega)]
              refine iteF ?_
              have yes : standB (lineP b) st.1 st.2 = true := by rw [stand_k cK, eM2, decide_eq_true c8, decide_eq_false cin] <;> rfl
              have es : stepP st (lineP b) = some (st.1 ++ [lineP b], st.2) := by unfold stepP; rw [yes, if_pos rfl, cK, if_pos rfl]
              rw [goP_some es] at er
              exact ⟨_, _, _, _, ks ++ [.ref p], ms, (st.1 ++ [lineP b], st.2), rfl, z5, s5 _ _ l4', s5 _ _ d4', s5 _ _ x4', s5 _ _ o4', AX4.tk (.same s5), AO4.tk (.same s5), G.step es, er⟩
            · rw [decide_eq_true (show (8 : Int) < (((ks ++ [V.ref p]).length : Nat) : Int) by rw [lx4]; omega)]
              have no : standB (lineP b) st.1 st.2 = false := by rw [stand_k cK, decide_eq_false c8, Bool.and_false, Bool.false_and]
              rw [goP_none (show stepP st (lineP b) = none by unfold stepP; rw [no, if_neg Bool.false_ne_true])] at er
              exact iteT (iteT ⟨_, rfl, qB i er H5 z5⟩)
      · refine ⟨_, rfl, rfl, _, rfl, ?_⟩
        rw [decide_eq_false (show ¬ V.ref a = V.non from nofun)]
        refine iteF ?_
        obtain ⟨y, d, _, en, p, zs, rfl, hp⟩ := th.mou cM
        have sac := st'.trans sc
        have smc := sm.trans sac
        have hdc := sac _ _ hdd'
        have hkc := sac _ _ hkl
        have hmc := sac _ _ hml
        refine ⟨_, rfl, .inr (.inl ⟨a, _, 1, _, rfl, rfl, ha, at1, .inr (.inl ⟨p, _, 0, _, rfl, rfl, hp, at0, ?_⟩)⟩)⟩
        refine ⟨_, rfl, dd, _, rfl, getK hdc, _, rfl, dd, _, rfl, getM hdc, kl, ml, ks, ms, rfl, rfl, hkc, hmc, small (by omega), fun c H2 s2 n2 h2 => ⟨c, rfl, ⟨_, SqL.of h2⟩, fun D hD => ?_⟩⟩
        refine lc_list (K := K) (a := c) (xs := ks ++ ms) (fun j H3 => Same H2 H3 ∧ H3 D = some (.lst ((((st.1 ++ st.2).map nmO).take j).map V.str))) ⟨same_new hD, upd_same⟩ (fun j H3 _ z => SqL.of (z.1 _ _ h2)) (fun j y H3 hy z => ?_) (fun H3 z => ?_)
        · obtain ⟨s3, l3⟩ := z
          have jl := (List.getElem?_eq_some_iff.mp hy).1
          rw [List.length_append] at jl
          obtain ⟨x2, b2, zs2, hx, rfl, h1⟩ := nmz AK AM G hy
          refine ⟨rfl, yesT ?_⟩
          refine ⟨_, rfl, b2, _, 0, _, rfl, rfl, Same.tup (sac.trans (s2.trans s3)) h1, at0, ?_⟩
          refine ⟨_, l3, by rw [List.length_map]; exact small' (by rw [List.length_take]; omega), Same.put s3 hD, ?_⟩
          rw [upd_same, take_one hx]
          exact congrArg (fun z => some (HO.lst z)) (List.map_append (f := V.str) (l₂ := [x2])).symm
        · obtain ⟨s3, l3⟩ := z
          have ln : (ks ++ ms).length = ((st.1 ++ st.2).map nmO).length := by rw [List.length_map, List.length_append, List.length_append, lks, lms]
          rw [ln, List.take_length] at l3
          have sc3 := s2.trans s3
          have hk3 := sc3 _ _ hkc
          have hm3 := sc3 _ _ hmc
          have hd3 := sc3 _ _ hdc
          have ha3 := Same.tup sc3 ha
          refine ⟨D, _, rfl, .inl (SqL.of l3), rfl, flat_strs _, ?_⟩
          rw [in_strs, ← en]
          refine ⟨_, rfl, ?_⟩
          by_cases cin : nmO (lineP b) ∈ (st.1 ++ st.2).map nmO
          · rw [decide_eq_true cin]
            have no : standB (lineP b) st.1 st.2 = false := by rw [stand_m cK cM, decide_eq_true cin, Bool.not_true, Bool.and_false]
            rw [goP_none (show stepP st (lineP b) = none by unfold stepP; rw [no, if_neg Bool.false_ne_true])] at er
            exact iteT ⟨_, rfl, qB i er H3 (smc.trans sc3)⟩
          rw [decide_eq_false cin]
          refine iteF ?_
          refine ⟨_, rfl, _, rfl, .inr (.inl ⟨a, _, 0, _, rfl, rfl, ha3, at0, dd, _, rfl, getM hd3, .inl ⟨rfl, _, SqL.of hm3⟩, _, rfl, .inr (.inl ⟨a, _, 1, _, rfl, rfl, ha3, at1, ml, _, _, rfl, rfl, hm3, small' (by omega), ?_⟩)⟩)⟩
          have th3 := th.tk (.same sc3)
          have hl3 := sc3 _ _ (sac _ _ hll)
          have tk : TK K H3 (upd H3 ml (.lst (ms ++ [.ref p]))) := TK.upd hm3 (fun xs z => by cases z) (fun b y z => by cases z)
          have z4 : Same H (upd H3 ml (.lst (ms ++ [.ref p]))) := Same.put (smc.trans sc3) nm
          have d4' : (upd H3 ml (.lst (ms ++ [.ref p]))) dd = some (.dK [(.inr "kettle", .ref kl), (.inr "mould", .ref ml)]) := by rw [upd_ne dm.symm]; exact hd3
          have x4' : (upd H3 ml (.lst (ms ++ [.ref p]))) ml = _ := upd_same
          have o4' : (upd H3 ml (.lst (ms ++ [.ref p]))) kl = some (.lst ks) := by rw [upd_ne kml]; exact hk3
          have l4' : (upd H3 ml (.lst (ms ++ [.ref p]))) ll = some (.lst (ls.map V.str)) := by rw [upd_ne lm]; exact hl3
          have a4' : SqT K (upd H3 ml (.lst (ms ++ [.ref p]))) a [.str "mould", .ref p] := tk _ _ ha3
          have AX4 := ((AM.tk (.same (sac.trans sc3))).cat (.cons th3 .nil)).tk tk
          have AO4 := (AK.tk (.same (sac.trans sc3))).tk tk
          generalize upd H3 ml (.lst (ms ++ [.ref p])) = H4 at z4 d4' x4' o4' l4' a4' AX4 AO4
          have lx4 : ((ms ++ [V.ref p]).length : Nat) = ms.length + 1 := by rw [List.length_append] <;> rfl
          refine ⟨_, rfl, .inr (.inl ⟨a, _, 0, _, rfl, rfl, a4', at0, rfl, _, rfl, ?_⟩)⟩
          rw [decide_eq_false (show ¬ V.str "mould" = V.str "kettle" by decide +kernel)]
          refine iteF ?_
          refine ⟨_, rfl, dd, _, rfl, getK d4', kl, _, rfl, .inl (SqL.of o4'), _, _, rfl, rfl, _, rfl, ?_⟩
          rw [decide_eq_false (show ¬ (8 : Int) < ((ks.length : Nat) : Int) by omega)]
          refine iteF ?_
          refine ⟨_, rfl, dd, _, rfl, getM d4', ml, _, rfl, .inl (SqL.of x4'), _, _, rfl, rfl, _, rfl, ?_⟩
          by_cases c40 : st.2.length < 40
          · rw [decide_eq_false (show ¬ (40 : Int) < (((ms ++ [V.ref p]).length : Nat) : Int) by rw [lx4]; omega)]
            refine iteF ?_
            have yes : standB (lineP b) st.1 st.2 = true := by rw [stand_m cK cM, decide_eq_true c40, decide_eq_false cin] <;> rfl
            have es : stepP st (lineP b) = some (st.1, st.2 ++ [lineP b]) := by unfold stepP; rw [yes, if_pos rfl, cK, if_neg Bool.false_ne_true]
            rw [goP_some es] at er
            exact ⟨_, _, _, _, ks, ms ++ [.ref p], (st.1, st.2 ++ [lineP b]), rfl, z4, l4', d4', o4', x4', AO4, AX4, G.step es, er⟩
          · rw [decide_eq_true (show (40 : Int) < (((ms ++ [V.ref p]).length : Nat) : Int) by rw [lx4]; omega)]
            have no : standB (lineP b) st.1 st.2 = false := by rw [stand_m cK cM, decide_eq_false c40, Bool.false_and]
            rw [goP_none (show stepP st (lineP b) = none by unfold stepP; rw [no, if_neg Bool.false_ne_true])] at er
            exact iteT ⟨_, rfl, qB i er H4 z4⟩
    · rintro σ Ha ⟨v2, v3, v4, v5, ks, ms, ⟨kss, mss⟩, rfl, sm, hll, hdd', hkl, hml, AK, AM, G, er⟩
      rw [List.length_map, List.drop_of_length_le (by rw [List.length_map]; exact Nat.le_refl _)] at er
      have lks := AK.len
      have k8 := G.k8
      refine ⟨_, rfl, dd, _, rfl, getK hdd', rfl, fun l0 H5 s5 n5 h5 => ?_⟩
      refine ne_nil (s5 _ _ hkl) (AK.tk (.same s5)) (fun ps hps => ket_lay (G.k ps hps)) (by omega) h5 ?_
      refine ⟨_, rfl, ?_⟩
      have z5 := sm.trans s5
      cases kss with
      | nil =>
        refine iteF ?_
        refine ⟨_, rfl, ⟨_, rfl⟩, _, _, rfl, rfl, rfl, small (by omega), fun l2 hl2 => ?_⟩
        rw [esp]
        refine ⟨l2, _, rfl, .inl (SqL.of upd_same), ?_⟩
        rw [List.length_map]
        exact qB _ er _ (z5.trans (same_new hl2))
      | cons q qs =>
        refine iteT ?_
        refine ⟨_, rfl, dd, _, rfl, getK (s5 _ _ hdd'), _, rfl, dd, _, rfl, getM (s5 _ _ hdd'), rfl, fun r H6 s6 n6 h6 => ?_⟩
        exact qG _ _ er r kl ml ks ms H6 (z5.trans s6) (SqT.of h6) (SqL.of (s6 _ _ (s5 _ _ hkl))) (AK.tk (.same (s5.trans s6))) (SqL.of (s6 _ _ (s5 _ _ hml))) (AM.tk (.same (s5.trans s6)))

end
end KR
namespace KR
open PySem PySem.Spec PyProof.Rows L2
section
variable {P : Program} {w : World} {K : PySem.W.Frag} {mg : Str → Option Value} {base : Heap}
def sp_l_right (K : PySem.W.Frag) (Ps : List Addr) : Sp := fun vs H Q _ => ∃ x : Str, vs = [.str x] ∧ x.length ≤ 50000 ∧ Tbs Ps H ∧ ∀ H', Sm H H' → Q (.bl true) H'
theorem ok_l_right (T : All K mg) (B : Tabs T base) : FnOk P w K mg base CX0 11 T.f_l_right T.fd_l_right ["_law_text"] (sp_l_right K T.Ps) := by
  refine T.d_l_right.fn.ok sc_l_right (fun vs H Q E h => ?_) (fun cdv A outer s H vs Q E hr h => ?_)
  · obtain ⟨x, rfl, _⟩ := h
    rfl
  · obtain ⟨x, rfl, lx, hT, q⟩ := h
    refine ⟨_, (pss_cons (ps_set (i := 1) sc_l_right.nd rfl (by first | exact Or.inl rfl | exact Or.inr rfl) (pe_call (ok_l_read T) (hr.mono (by decide)) (by rfl) T.d_l_read.mg T.d_l_read.fn.kp T.d_l_read.b .nil pass0 (pa_cons (pv 0) pa_nil)))
      (pss_cons (ps_if (pt_val (pe_callB (isiK (K := K) rfl) (by rfl) T.b_isinstance (by decide +kernel) (pa_cons (pv 1) (pa_cons (pe_bltn (v := .ty "int") (by rfl) T.b_int (by decide +kernel) rfl) pa_nil)))) (pss_one (ps_ret (pe_cmpR (eqDK (K := K) rfl hr.units) (pe_call (ok_l_refused T B) hr (by rfl) T.d_l_refused.mg T.d_l_refused.fn.kp T.d_l_refused.b .nil pass0 (pa_cons (pv 0) pa_nil)) (pv 1) (nomark _)))) pss_nil)
      (pss_cons (ps_if (pt_cmpR op_notN (pe_call (ok_l_refused T B) hr (by rfl) T.d_l_refused.mg T.d_l_refused.fn.kp T.d_l_refused.b .nil pass0 (pa_cons (pv 0) pa_nil)) pe_non (nomark _)) (pss_one (ps_ret pe_bl)) pss_nil)
      (pss_cons (ps_set (i := 2) sc_l_right.nd rfl (by first | exact Or.inl rfl | exact Or.inr rfl) (pe_call (ok_p_row_from T B) (hr.mono (by decide)) (by rfl) T.d_p_row_from.mg T.d_p_row_from.fn.kp T.d_p_row_from.b .nil passX0 (pa_cons (pv 0) pa_nil)))
      (pss_one (ps_ret (pe_call (ok_l_same T) (hr.mono (by decide)) (by rfl) T.d_l_same.mg T.d_l_same.fn.kp T.d_l_same.b .nil pass0 (pa_cons (pe_tupI (pa_cons (pe_fld (pv 2) rfl) (pa_cons (pe_fld (pv 2) rfl) pa_nil))) (pa_cons (pe_tupI (pa_cons (pe_callTy (tupI (K := K) rfl) (by rfl) T.b_tuple (by decide +kernel) (pa_cons (pe_ix (ixQ (K := K) rfl) (pv 1) pe_int (fun _ _ => rfl)) pa_nil)) (pa_cons (pe_callTy (tupI (K := K) rfl) (by rfl) T.b_tuple (by decide +kernel) (pa_cons (pe_ix (ixQ (K := K) rfl) (pv 1) pe_int (fun _ _ => rfl)) pa_nil)) pa_nil))) pa_nil))))))))), ?_⟩
    refine ⟨_, rfl, x, rfl, lx, fun n er H1 s1 => ?_, fun kss mss er a kl ml ks ms H1 s1 ha hk AK hm AM => ?_⟩
    · refine ⟨_, rfl, _, _, _, _, _, rfl, .ty _, .base (.int _), kit_ty (show kitB "int" "int" = some true by decide +kernel), _, rfl, iteT ?_⟩
      refine ⟨_, rfl, x, rfl, lx, hT.sm (.of s1), fun m em H2 s2 => ?_, fun st em => (by rw [er] at em; cases em)⟩
      rw [er] at em
      cases em
      refine ⟨_, rfl, .int n, .int n, .int _, .int _, rfl, rfl, ?_⟩
      rw [SeqAt.eqv_refl _ rfl]
      exact q H2 ((Sm.of s1).trans s2)
    · have G : GoodSt (kss, mss) := (goP_good _ _ _ _ good_nil er).1
      have k8 : kss.length ≤ 8 := G.k8
      have m40 : mss.length ≤ 40 := G.m40
      refine ⟨_, rfl, _, _, _, _, _, rfl, .ty _, sqT_ty ha, kit_ty (show kitB "tuple" "int" = some false by decide +kernel), _, rfl, iteF ?_⟩
      refine ⟨_, rfl, x, rfl, lx, hT.sm (.of s1), fun m em => (by rw [er] at em; cases em), fun st em H2 s2 => ⟨rfl, ?_⟩⟩
      have S2 := (Sm.of s1).trans s2
      refine ⟨_, rfl, ?_⟩
      rw [decide_eq_true rfl]
      refine iteF ?_
      refine ⟨_, rfl, x, rfl, lx, hT.sm S2, fun m em => (by rw [er] at em; cases em), fun kss2 mss2 em y dx k3 m3 ks3 ms3 H3 s3 r1 rk AK3 rm AM3 => ?_⟩
      rw [er] at em
      cases em
      have S13 := s2.trans s3
      refine ⟨_, rfl, y, T.C_Row, dx, _, _, rfl, r1, T.L_Row, T.n_Row_kettles, rfl, _, rfl, y, _, _, _, _, rfl, r1, T.L_Row, T.n_Row_moulds, rfl, rfl, fun u H4 s4 n4 h4 => ?_⟩
      have S14 := S13.trans (.of s4)
      have ha4 := S14.tup ha
      have hk4 := S14.seq hk
      refine ⟨_, rfl, .inr (.inl ⟨a, _, 0, _, rfl, rfl, ha4, at0, kl, ks, rfl, .inl ⟨hk4, fun kt H5 s5 n5 h5 => ?_⟩⟩)⟩
      have S15 := S14.trans (.of s5)
      refine ⟨_, rfl, .inr (.inl ⟨a, _, 1, _, rfl, rfl, S15.tup ha, at1, ml, ms, rfl, .inl ⟨S15.seq hm, fun mt H6 s6 n6 h6 => ⟨rfl, fun w H7 s7 n7 h7 => ?_⟩⟩⟩)⟩
      have S17 := S15.trans (.of (s6.trans s7))
      have s47 := s5.trans (s6.trans s7)
      have s37 := s4.trans s47
      have layK : ∀ ps ∈ kss, ∀ p ∈ ps, p.lay := fun ps hps => ket_lay (G.k ps hps)
      have layM : ∀ ps ∈ mss, ∀ p ∈ ps, p.lay := fun ps hps => mou_lay (G.m ps hps)
      have b1 := AK.len
      have b2 := AM.len
      have b3 := AK3.len
      have b4 := AM3.len
      have D1 : Dk K H7 5 (.ref u) (.tuple [.tuple (kss.map thD), .tuple (mss.map thD)]) := DkAll.tup (.cons (((AK3.tk (.same s37)).dk layK).tup (Same.tup s37 rk) (Nat.ble_eq_true_of_le (by omega))) (.cons (((AM3.tk (.same s37)).dk layM).tup (Same.tup s37 rm) (Nat.ble_eq_true_of_le (by omega))) .nil)) (Same.tup s47 (SqT.of h4))
      have D2 : Dk K H7 5 (.ref w) (.tuple [.tuple (kss.map thD), .tuple (mss.map thD)]) := DkAll.tup (.cons (((AK.tk (.sm S17)).dk layK).tup (Same.tup (s6.trans s7) (SqT.of h5)) (Nat.ble_eq_true_of_le (by omega))) (.cons (((AM.tk (.sm S17)).dk layM).tup (Same.tup s7 (SqT.of h6)) (Nat.ble_eq_true_of_le (by omega))) .nil)) (SqT.of h7)
      exact ⟨_, _, _, rfl, D1, D2, fun H8 s8 => q H8 ((Sm.of s1).trans (S17.trans (.of s8)))⟩

end
end KR
namespace KR
open PySem PySem.Spec PyProof.Rows L2
section
variable {P : Program} {w : World} {K : PySem.W.Frag} {mg : Str → Option Value} {base : Heap}
/-- ' '.join of a list or tuple of texts -/
def rJoinS (K : PySem.W.Frag) : V → List V → Hp → VK → Prop := fun x xs H Q => ∃ a p, ∃ ys : List Str, x = .str a ∧ xs = [.ref p] ∧ (SqL K H p (ys.map V.str) ∨ SqT K H p (ys.map V.str)) ∧ (ys.map (·.length)).sum + ys.length * a.length ≤ 16777216 ∧ Q (.str (Txt.join a ys)) H
/-- lists of words at addresses -/
inductive WL (H : Hp) : List V → List (List Str) → Prop
  | nil : WL H [] []
  | cons {a : Addr} {w : List Str} {xs : List V} {ws : List (List Str)} (h : H a = some (.lst (w.map V.str))) (t : WL H xs ws) : WL H (.ref a :: xs) (w :: ws)
theorem WL.same {H H' : Hp} (s : Same H H') : ∀ {xs : List V} {ws : List (List Str)}, WL H xs ws → WL H' xs ws
  | _, _, .nil => .nil
  | _, _, .cons h t => .cons (s _ _ h) (t.same s)
theorem WL.app {H : Hp} : ∀ {xs ys : List V} {a b : List (List Str)}, WL H xs a → WL H ys b → WL H (xs ++ ys) (a ++ b)
  | _, _, _, _, .nil, t => t
  | _, _, _, _, .cons h t, t' => .cons h (t.app t')
theorem WL.len {H : Hp} : ∀ {xs : List V} {a : List (List Str)}, WL H xs a → xs.length = a.length
  | _, _, .nil => rfl
  | _, _, .cons _ t => by rw [List.length_cons, List.length_cons, t.len]
theorem WL.put {H : Hp} {D : Addr} {o : HO} : ∀ {xs : List V} {a : List (List Str)}, WL H xs a → (∀ y ∈ xs, y ≠ .ref D) → WL (upd H D o) xs a
  | _, _, .nil, _ => .nil
  | _, _, .cons h t, n => .cons (by rw [upd_ne (fun e => n _ List.mem_cons_self (by rw [e]))]; exact h) (t.put fun y hy => n y (List.mem_cons_of_mem _ hy))
theorem WL.get {H : Hp} : ∀ {xs : List V} {a : List (List Str)} {i : Nat} {w : List Str} {x : V}, WL H xs a → a[i]? = some w → xs[i]? = some x → ∃ p, x = .ref p ∧ H p = some (.lst (w.map V.str))
  | _, _, _, _, _, .nil, e, _ => by simp at e
  | _, _, 0, _, _, .cons h t, e, e2 => by
    cases e
    cases e2
    exact ⟨_, rfl, h⟩
  | _, _, i + 1, _, _, .cons h t, e, e2 => t.get (i := i) (by simpa using e) (by simpa using e2)
theorem none_of {H H' : Hp} {p : Addr} (s : Same H H') (n : H' p = none) : H p = none := by
  cases e : H p with
  | none => rfl
  | some o => rw [s _ _ e] at n; cases n
def cutS (w : List Str) (lo hi : Option Int) : List Str := (w.drop (HT.sIx w.length 0 lo)).take (HT.sIx w.length w.length hi - HT.sIx w.length 0 lo)
theorem cut_map (w : List Str) (lo hi : Option Int) : cutV (w.map V.str) lo hi = (cutS w lo hi).map V.str := by
  unfold cutV cutS
  rw [List.map_take, List.map_drop, List.length_map]
section
variable {Pv Pw : L2.St → Prop} {Ph : Hp → Prop} {wl : Addr}
def Stb (Ph : Hp → Prop) : Prop := ∀ H H', Same H H' → Ph H → Ph H'
/-- an expression that gives a list of words -/
def Ev (wl : Addr) (Pv : L2.St → Prop) (Ph : Hp → Prop) (te : TE) (w : List Str) : Prop := ∀ σ H Q, Pv σ → Ph H → (∀ p H', Same H H' → (H p = none ∨ p = wl) → H' p = some (.lst (w.map V.str)) → Q (.ref p) H') → te σ H Q
/-- one that gives a list of lists of words -/
def Evs (Pv : L2.St → Prop) (Ph : Hp → Prop) (te : TE) (ws : List (List Str)) : Prop := ∀ σ H Q, Pv σ → Ph H → (∀ p xs H', Same H H' → H' p = some (.lst xs) → WL H' xs ws → Q (.ref p) H') → te σ H Q
def EvA (Pv : L2.St → Prop) (Ph : Hp → Prop) (t : TA) (ws : List (List Str)) : Prop := ∀ σ H Q, Pv σ → Ph H → (∀ xs H', Same H H' → WL H' xs ws → Q xs H') → t σ H Q
theorem eva_nil : EvA Pv Ph tNil [] := fun σ H Q _ _ q => q [] H (.refl _) .nil
theorem eva_cons {te : TE} {t : TA} {w : List Str} {ws : List (List Str)} (S : Stb Ph) (e : Ev wl Pv Ph te w) (a : EvA Pv Ph t ws) : EvA Pv Ph (tCons te t) (w :: ws) := fun σ H Q pv ph q =>
  e σ H _ pv ph fun p H1 s1 _ h1 => a σ H1 _ pv (S _ _ s1 ph) fun xs H2 s2 W => q (.ref p :: xs) H2 (s1.trans s2) (.cons (s2 _ _ h1) W)
theorem evs_lst {t : TA} {ws : List (List Str)} (a : EvA Pv Ph t ws) (n : ws.length ≤ 100000) : Evs Pv Ph (tLstI t) ws := fun σ H Q pv ph q =>
  a σ H _ pv ph fun xs H1 s1 W => ⟨by rw [W.len]; exact Nat.ble_eq_true_of_le n, fun p H2 s2 n2 h2 => q p xs H2 (s1.trans s2) h2 (W.same s2)⟩
theorem evs_cat {ta tb : TE} {a b : List (List Str)} (S : Stb Ph) (h : Evs Pv Ph ta a) (g : Evs Pv Ph tb b) (n : a.length + b.length ≤ 1000) : Evs Pv Ph (tOp rCatI ta tb) (a ++ b) := fun σ H Q pv ph q =>
  h σ H _ pv ph fun p1 xs H1 s1 h1 W1 => g σ H1 _ pv (S _ _ s1 ph) fun p2 ys H2 s2 h2 W2 =>
    ⟨p1, p2, xs, ys, rfl, rfl, s2 _ _ h1, h2, by rw [W1.len, W2.len, sizeLine_eq]; omega, fun p H3 s3 _ h3 => q p _ H3 (s1.trans (s2.trans s3)) h3 ((W1.same (s2.trans s3)).app (W2.same s3))⟩
theorem evs_var {i : Nat} {l : Addr} {xs : List V} {ws : List (List Str)} (hv : ∀ σ, Pv σ → σ[i]? = some (some (.ref l))) (hh : ∀ H, Ph H → H l = some (.lst xs) ∧ WL H xs ws) : Evs Pv Ph (tVar i) ws := fun σ H Q pv ph q =>
  ⟨_, hv σ pv, q l xs H (.refl _) (hh H ph).1 (hh H ph).2⟩
theorem ev_var {w : List Str} (hv : ∀ σ, Pv σ → σ[0]? = some (some (.ref wl))) (hh : ∀ H, Ph H → H wl = some (.lst (w.map V.str))) : Ev wl Pv Ph (tVar 0) w := fun σ H Q pv ph q =>
  ⟨_, hv σ pv, q wl H (.refl _) (.inr rfl) (hh H ph)⟩
theorem ev_one {s : Str} : Ev wl Pv Ph (tLstI (tCons (tC (.str s)) tNil)) [s] := fun σ H Q _ _ q => ⟨rfl, fun p H1 s1 n1 h1 => q p H1 s1 (.inl n1) h1⟩
theorem ev_oneV {i : Nat} {s : Str} (hv : ∀ σ, Pv σ → σ[i]? = some (some (.str s))) : Ev wl Pv Ph (tLstI (tCons (tVar i) tNil)) [s] := fun σ H Q pv _ q => ⟨_, hv σ pv, rfl, fun p H1 s1 n1 h1 => q p H1 s1 (.inl n1) h1⟩
theorem ev_nil : Ev wl Pv Ph (tLstI tNil) [] := fun σ H Q _ _ q => ⟨rfl, fun p H1 s1 n1 h1 => q p H1 s1 (.inl n1) h1⟩
theorem ev_cat {ta tb : TE} {a b : List Str} (S : Stb Ph) (h : Ev wl Pv Ph ta a) (g : Ev wl Pv Ph tb b) (n : a.length + b.length ≤ 1000) : Ev wl Pv Ph (tOp rCatI ta tb) (a ++ b) := fun σ H Q pv ph q =>
  h σ H _ pv ph fun p1 H1 s1 _ h1 => g σ H1 _ pv (S _ _ s1 ph) fun p2 H2 s2 _ h2 =>
    ⟨p1, p2, _, _, rfl, rfl, s2 _ _ h1, h2, by rw [List.length_map, List.length_map, sizeLine_eq]; omega, fun p H3 s3 n3 h3 => q p H3 (s1.trans (s2.trans s3)) (.inl (none_of (s1.trans s2) n3)) (by rw [List.map_append]; exact h3)⟩
theorem ev_cut {K : PySem.W.Frag} {w : List Str} {tl th : TO} {lo hi : Option Int} (hv : ∀ σ, Pv σ → σ[0]? = some (some (.ref wl))) (hh : ∀ H, Ph H → H wl = some (.lst (w.map V.str))) (hl : ∀ σ H Q, Q lo H → tl σ H Q) (hu : ∀ σ H Q, Q hi H → th σ H Q) : Ev wl Pv Ph (tSl (rSlLI K) (tVar 0) tl th) (cutS w lo hi) := fun σ H Q pv ph q =>
  ⟨_, hv σ pv, hl _ _ _ (hu _ _ _ ⟨wl, _, rfl, SqL.of (hh H ph), fun p H1 s1 n1 h1 => q p H1 s1 (.inl n1) (by rw [← cut_map]; exact h1)⟩)⟩
theorem to_none {σ : L2.St} {H : Hp} {Q : Option Int → Hp → Prop} (q : Q none H) : tNoPart σ H Q := q
theorem to_int {i : Int} {σ : L2.St} {H : Hp} {Q : Option Int → Hp → Prop} (q : Q (some i) H) : tPart (tC (.int i)) σ H Q := ⟨i, rfl, q⟩
theorem to_neg {i : Int} {σ : L2.St} {H : Hp} {Q : Option Int → Hp → Prop} (q : Q (some (-i)) H) : tPart (tUn (rU fun i => V.int (-i)) (tC (.int i))) σ H Q := ⟨i, rfl, -i, rfl, q⟩
theorem Evs.run {te : TE} {ws : List (List Str)} (h : Evs Pv Ph te ws) {σ : L2.St} {H : Hp} {Q : VK} (pv : Pv σ) (ph : Ph H) (q : ∀ p xs H', Same H H' → H' p = some (.lst xs) → WL H' xs ws → Q (.ref p) H') : te σ H Q := h σ H Q pv ph q
theorem seq_asg {te : TE} {g : TG} {t2 : TS} {D : Ends} {σ : L2.St} {H : Hp} (h : te σ H fun x H' => g x σ H' fun σ2 H2 => t2 D σ2 H2) : tSeq (tAsg te g) t2 D σ H := h
theorem cut_le {w : List Str} (w5 : w.length ≤ 5) (lo hi : Option Int) : (cutS w lo hi).length ≤ 5 := by
  unfold cutS
  rw [List.length_take, List.length_drop]
  omega
theorem ev_end {K : PySem.W.Frag} {w : List Str} {s : Str} (S : Stb Ph) (w5 : w.length ≤ 5) (hh : ∀ H, Ph H → H wl = some (.lst (w.map V.str))) (hv : ∀ σ, Pv σ → σ[0]? = some (some (.ref wl))) {te : TE} (e : Ev wl Pv Ph te [s]) : Ev wl Pv Ph (tOp rCatI (tSl (rSlLI K) (tVar 0) tNoPart (tPart (tUn (rU fun i => V.int (-i)) (tC (V.int 1))))) te) (cutS w none (some (-1)) ++ [s]) :=
  ev_cat S (ev_cut hv hh (fun _ _ _ => to_none) (fun _ _ _ => to_neg)) e (by have := cut_le w5 none (some (-1)); show _ + 1 ≤ _; omega)
theorem ev_mid {K : PySem.W.Frag} {w : List Str} {s : Str} {a b : Int} (S : Stb Ph) (w5 : w.length ≤ 5) (hh : ∀ H, Ph H → H wl = some (.lst (w.map V.str))) (hv : ∀ σ, Pv σ → σ[0]? = some (some (.ref wl))) {te : TE} (e : Ev wl Pv Ph te [s]) : Ev wl Pv Ph (tOp rCatI (tOp rCatI (tSl (rSlLI K) (tVar 0) tNoPart (tPart (tC (V.int a)))) te) (tSl (rSlLI K) (tVar 0) (tPart (tC (V.int b))) tNoPart)) (cutS w none (some a) ++ [s] ++ cutS w (some b) none) :=
  ev_cat S (ev_cat S (ev_cut hv hh (fun _ _ _ => to_none) (fun _ _ _ => to_int)) e (by have := cut_le w5 none (some a); show _ + 1 ≤ _; omega)) (ev_cut hv hh (fun _ _ _ => to_int) (fun _ _ _ => to_none)) (by
    have := cut_le w5 none (some a)
    have := cut_le w5 (some b) none
    rw [List.length_append]
    show _ + 1 + _ ≤ _
    omega)
/-- where a comprehension's texts come from -/
def Src (Pv : L2.St → Prop) (Ph : Hp → Prop) (wi : TI) (xs : List Str) : Prop := ∀ σ H R, Pv σ → Ph H → (∀ (J : It) (G : Hp → Prop) H1, Same H H1 → G H1 → (∀ Ha Hb, Same Ha Hb → G Ha → G Hb) → Walk J (xs.map V.str).length G (YAt (xs.map V.str)) → R J H1) → wi σ H R
theorem src_var {K : PySem.W.Frag} {k : Nat} {l : Addr} {xs : List Str} (hv : ∀ σ, Pv σ → σ[k]? = some (some (.ref l))) (hh : ∀ H, Ph H → H l = some (.lst (xs.map V.str))) : Src Pv Ph (iList K (tVar k)) xs := fun σ H R pv ph q =>
  ⟨_, hv σ pv, l, rfl, ⟨_, SqL.of (hh H ph)⟩, q (Itl K l) (fun H => SqL K H l (xs.map V.str)) H (.refl _) (SqL.of (hh H ph)) (fun _ _ s h => (Sm.of s).seq h) walk_list⟩
theorem src_cut {K : PySem.W.Frag} {k : Nat} {l : Addr} {xs : List Str} {tl th : TO} {lo hi : Option Int} (hv : ∀ σ, Pv σ → σ[k]? = some (some (.ref l))) (hh : ∀ H, Ph H → H l = some (.lst (xs.map V.str))) (hl : ∀ σ H Q, Q lo H → tl σ H Q) (hu : ∀ σ H Q, Q hi H → th σ H Q) : Src Pv Ph (iList K (tSl (rSlLI K) (tVar k) tl th)) (cutS xs lo hi) := fun σ H R pv ph q =>
  ⟨_, hv σ pv, hl _ _ _ (hu _ _ _ ⟨l, _, rfl, SqL.of (hh H ph), fun p H1 s1 n1 h1 => ⟨p, rfl, ⟨_, SqL.of h1⟩, q (Itl K p) (fun H => SqL K H p ((cutS xs lo hi).map V.str)) H1 s1 (by rw [← cut_map]; exact SqL.of h1) (fun _ _ s h => (Sm.of s).seq h) walk_list⟩⟩)⟩
theorem src_tup {K : PySem.W.Frag} {t : TA} {xs : List Str} (ht : ∀ σ H Q, Q (xs.map V.str) H → t σ H Q) (n : xs.length ≤ 1000) : Src Pv Ph (iTup K (tTupI t)) xs := fun σ H R pv ph q =>
  ht _ _ _ ⟨by rw [List.length_map]; exact Nat.ble_eq_true_of_le (by omega), fun p H1 s1 n1 h1 => ⟨p, rfl, ⟨_, SqT.of h1⟩, q (Itt K p) (fun H => SqT K H p (xs.map V.str)) H1 s1 (SqT.of h1) (fun _ _ s h => (Sm.of s).tup h) walk_tup⟩⟩
/-- a comprehension over texts -/
theorem evs_lc {wi : TI} {te : TE} {i : Nat} {xs : List Str} {f : Str → List Str} {Pw : Str → L2.St → Prop} (S : Stb Ph)
    (src : Src Pv Ph wi xs)
    (hp : ∀ σ, Pv σ → ∀ s, Pw s ((wipe σ [i]).set i (some (.str s))) ∧ wipe ((wipe σ [i]).set i (some (.str s))) [i] = wipe σ [i]) (hwl : ∀ H, Ph H → ∃ o, H wl = some o)
    (e : ∀ s ∈ xs, Ev wl (Pw s) Ph te (f s)) (n : xs.length ≤ 1000) : Evs Pv Ph (tLc wi (gName i) tYes te [i]) (xs.map f) := fun σ H Q pv ph q => by
  refine src σ H _ pv ph fun J G H1 s1 g1 gs W D hD => ?_
  have ph1 := S _ _ s1 ph
  have wD : wl ≠ D := by
    obtain ⟨o, ho⟩ := hwl H1 ph1
    exact ne_of_none ho hD
  refine lc_it W (fun j H' => Same H1 H' ∧ ∃ ys, H' D = some (.lst ys) ∧ ys.length = j ∧ (∀ y ∈ ys, y ≠ .ref D) ∧ WL H' ys ((xs.take j).map f)) ⟨same_new hD, [], upd_same, rfl, nofun, .nil⟩ (fun j H' _ z => gs _ _ z.1 g1) ?_ ?_
  · rintro j x Ha' Ha hj ⟨sa, ys, hys, ly, nD, Wy⟩ ⟨rfl, hx⟩
    rw [List.length_map] at hj
    rw [List.getElem?_map, List.getElem?_eq_getElem hj] at hx
    cases hx
    obtain ⟨pw, wp⟩ := hp σ pv xs[j]
    refine ⟨wp, yesT ?_⟩
    refine e _ (List.getElem_mem hj) _ Ha _ pw (S _ _ sa ph1) fun p Hb sb fr hb => ?_
    refine ⟨ys, sb _ _ hys, by rw [ly]; exact small' (by omega), Same.put (sa.trans sb) hD, _, upd_same, by rw [List.length_append, ly] <;> rfl, fun y hy => ?_, ?_⟩
    · rcases List.mem_append.mp hy with m | m
      · exact nD y m
      · rw [List.mem_singleton.mp m]
        intro z
        cases z
        rcases fr with fr | fr
        · rw [hys] at fr
          cases fr
        · exact wD fr.symm
    · have nDp : p ≠ D := fun z => by
        rcases fr with fr | fr
        · rw [z, hys] at fr
          cases fr
        · exact wD (fr.symm.trans z)
      rw [List.take_succ, List.map_append, List.getElem?_eq_getElem hj]
      exact ((Wy.same sb).put nD).app (.cons (by rw [upd_ne nDp]; exact hb) .nil)
  · rintro Ha ⟨sa, ys, hys, ly, nD, Wy⟩
    rw [List.length_map] at Wy
    rw [List.take_length] at Wy
    exact q D ys Ha (s1.trans sa) hys Wy
end
theorem stb3 {wl al l : Addr} {vw va x : List V} {ws : List (List Str)} : Stb (fun H' : Hp => H' wl = some (.lst vw) ∧ (H' l = some (.lst x) ∧ WL H' x ws) ∧ H' al = some (.lst va)) := fun Ha Hb s ⟨a1, ⟨a2, a3⟩, a4⟩ => ⟨s _ _ a1, ⟨s _ _ a2, a3.same s⟩, s _ _ a4⟩
/-- the words that can't stand -/
def wrongsL (w as : List Str) : List (List Str) :=
  (((((([w ++ (["1"] : List Str), cutS w none (some (-1)), cutS w none (some (-1)) ++ (["2/4"] : List Str), cutS w none (some (-1)) ++ (["1/1"] : List Str), cutS w none (some (-1)) ++ (["0/1"] : List Str)]
    ++ (["1", "-1/2", "1/61", "3/2", "1/0", "/2", "1/", "1/2/3", "01/2", "0.5", ""] : List Str).map (fun x => cutS w none (some (-1)) ++ [x]))
    ++ (["0", "1000001", "01", "-1", "+1", "1/2", "", "x", Txt.mul "9" 50] : List Str).map (fun x => cutS w none (some 2) ++ [x] ++ cutS w (some 3) none))
    ++ (["abcdefghi", "", "A", "a1", "a-b"] : List Str).map (fun x => cutS w none (some 1) ++ [x] ++ cutS w (some 2) none))
    ++ (["kettles", "Kettle", "", "mold", "juice"] : List Str).map (fun x => [x] ++ cutS w (some 1) none))
    ++ [([""] : List Str) ++ w, w ++ ([""] : List Str)])
    ++ [cutS w none (some 1) ++ ([""] : List Str) ++ cutS w (some 1) none, []]) ++ (cutS as (some (-1)) none).map (fun x => cutS w none (some 1) ++ [x] ++ cutS w (some 2) none)
def wrongsM (w : List Str) : List (List Str) := if w[0]? = some ("kettle" : Str) then (["10001", "00", "-1", "", "1/2"] : List Str).map (fun x => cutS w none (some 3) ++ [x] ++ cutS w (some 4) none) ++ [cutS w none (some (-1)) ++ (["0"] : List Str)]
  else [cutS w none (some (-1)) ++ (["1/13"] : List Str), cutS w none (some (-1)) ++ (["12/13"] : List Str), cutS w none (some 2) ++ (["5"] : List Str) ++ cutS w (some 2) none]
theorem sum_100 : ∀ {ys : List Str}, (∀ x ∈ ys, x.length ≤ 100) → (ys.map (·.length)).sum ≤ 100 * ys.length
  | [], _ => Nat.zero_le _
  | y :: ys, h => by
    have h1 := h y List.mem_cons_self
    have h2 := sum_100 fun x hx => h x (List.mem_cons_of_mem _ hx)
    rw [List.map_cons, List.sum_cons, List.length_cons]
    omega
theorem seq_if {c : TT} {t u r : TS} {D : Ends} {σ : L2.St} {H : Hp} (h : c σ H fun b H1 => if b = true then tSeq t r D σ H1 else tSeq u r D σ H1) : tSeq (tIfS c t u) r D σ H := h
def sp_l_wrong (K : PySem.W.Frag) : Sp := fun vs H Q _ => ∃ (wl al : Addr) (ws as : List Str), vs = [.ref wl, .ref al] ∧ H wl = some (.lst (ws.map V.str)) ∧ H al = some (.lst (as.map V.str)) ∧ 4 ≤ ws.length ∧ ws.length ≤ 5 ∧ as.length ≤ 48 ∧ (∀ s ∈ wrongsL ws as ++ wrongsM ws, s.length ≤ 7 ∧ ∀ x ∈ s, x.length ≤ 100) ∧
  ∀ l H', Same H H' → H' l = some (.lst (((wrongsL ws as ++ wrongsM ws).map fun s => Txt.join " " s).map V.str)) → Q (.ref l) H'
theorem ok_l_wrong (T : All K mg) : FnOk P w K mg base CX0 1 T.f_l_wrong T.fd_l_wrong ["_law_words", "_law_ahead"] (sp_l_wrong K) := by
  refine T.d_l_wrong.fn.ok sc_l_wrong (fun vs H Q E h => ?_) (fun cdv A outer s H vs Q E hr h => ?_)
  · obtain ⟨wl, al, ws, as, rfl, _⟩ := h
    rfl
  · obtain ⟨wl, al, w, as, rfl, hW, hA, w4, w5, a48, ok, q⟩ := h
    refine ⟨_, (pss_cons (ps_set (i := 2) sc_l_wrong.nd rfl (by first | exact Or.inl rfl | exact Or.inr rfl) (pe_lstI (pa_cons (pe_op op_catI (pv 0) (pe_lstI (pa_cons pe_str pa_nil))) (pa_cons (pe_slice (slL (K := K) rfl) (pv 0) po_none (po_some (pe_un un_neg pe_int))) (pa_cons (pe_op op_catI (pe_slice (slL (K := K) rfl) (pv 0) po_none (po_some (pe_un un_neg pe_int))) (pe_lstI (pa_cons pe_str pa_nil))) (pa_cons (pe_op op_catI (pe_slice (slL (K := K) rfl) (pv 0) po_none (po_some (pe_un un_neg pe_int))) (pe_lstI (pa_cons pe_str pa_nil))) (pa_cons (pe_op op_catI (pe_slice (slL (K := K) rfl) (pv 0) po_none (po_some (pe_un un_neg pe_int))) (pe_lstI (pa_cons pe_str pa_nil))) pa_nil)))))))
      (pss_cons (ps_set (i := 3) sc_l_wrong.nd rfl (by first | exact Or.inl rfl | exact Or.inr rfl) (pe_lstI (pa_cons pe_str (pa_cons pe_str (pa_cons pe_str (pa_cons pe_str (pa_cons pe_str (pa_cons pe_str (pa_cons pe_str (pa_cons pe_str (pa_cons pe_str (pa_cons pe_str (pa_cons pe_str pa_nil)))))))))))))
      (pss_cons (ps_set (i := 4) sc_l_wrong.nd rfl (by first | exact Or.inl rfl | exact Or.inr rfl) (pe_lstI (pa_cons pe_str (pa_cons pe_str (pa_cons pe_str (pa_cons pe_str (pa_cons pe_str (pa_cons pe_str (pa_cons pe_str (pa_cons pe_str (pa_cons (pe_op op_mul_str pe_str pe_int) pa_nil)))))))))))
      (pss_cons (ps_set (i := 2) sc_l_wrong.nd rfl (by first | exact Or.inl rfl | exact Or.inr rfl) (pe_op op_catI (pe_op op_catI (pv 2) (pe_lc (own := [("_law_one", 5)]) (g := gName 5) (tt := tYes) (by rfl) sc_l_wrong.nd (pi_listK (K := K) rfl (pv 3)) (blkOk_by (own := [("_law_one", 5)]) (N := ["_law_words", "_law_ahead", "_law_some", "_law_fracs", "_law_numbers", "_law_one", "_law_name"]) (sc := defScope s_l_wrong) (by decide +kernel)) (fun _ _ _ _ _ => (pg_name (i := 5) sc_l_wrong.nd rfl (by first | exact Or.inl rfl | exact Or.inr rfl))) (fun _ _ _ _ _ => pts_nil) (fun _ _ _ _ _ => (pe_op op_catI (pe_slice (slL (K := K) rfl) (pv 0) po_none (po_some (pe_un un_neg pe_int))) (pe_lstI (pa_cons (pv 5) pa_nil)))))) (pe_lc (own := [("_law_one", 5)]) (g := gName 5) (tt := tYes) (by rfl) sc_l_wrong.nd (pi_listK (K := K) rfl (pv 4)) (blkOk_by (own := [("_law_one", 5)]) (N := ["_law_words", "_law_ahead", "_law_some", "_law_fracs", "_law_numbers", "_law_one", "_law_name"]) (sc := defScope s_l_wrong) (by decide +kernel)) (fun _ _ _ _ _ => (pg_name (i := 5) sc_l_wrong.nd rfl (by first | exact Or.inl rfl | exact Or.inr rfl))) (fun _ _ _ _ _ => pts_nil) (fun _ _ _ _ _ => (pe_op op_catI (pe_op op_catI (pe_slice (slL (K := K) rfl) (pv 0) po_none (po_some pe_int)) (pe_lstI (pa_cons (pv 5) pa_nil))) (pe_slice (slL (K := K) rfl) (pv 0) (po_some pe_int) po_none))))))
      (pss_cons (ps_set (i := 2) sc_l_wrong.nd rfl (by first | exact Or.inl rfl | exact Or.inr rfl) (pe_op op_catI (pv 2) (pe_lc (own := [("_law_one", 5)]) (g := gName 5) (tt := tYes) (by rfl) sc_l_wrong.nd (pi_tupK (K := K) rfl (pe_tupI (pa_cons pe_str (pa_cons pe_str (pa_cons pe_str (pa_cons pe_str (pa_cons pe_str pa_nil))))))) (blkOk_by (own := [("_law_one", 5)]) (N := ["_law_words", "_law_ahead", "_law_some", "_law_fracs", "_law_numbers", "_law_one", "_law_name"]) (sc := defScope s_l_wrong) (by decide +kernel)) (fun _ _ _ _ _ => (pg_name (i := 5) sc_l_wrong.nd rfl (by first | exact Or.inl rfl | exact Or.inr rfl))) (fun _ _ _ _ _ => pts_nil) (fun _ _ _ _ _ => (pe_op op_catI (pe_op op_catI (pe_slice (slL (K := K) rfl) (pv 0) po_none (po_some pe_int)) (pe_lstI (pa_cons (pv 5) pa_nil))) (pe_slice (slL (K := K) rfl) (pv 0) (po_some pe_int) po_none))))))
      (pss_cons (ps_set (i := 2) sc_l_wrong.nd rfl (by first | exact Or.inl rfl | exact Or.inr rfl) (pe_op op_catI (pv 2) (pe_lc (own := [("_law_one", 5)]) (g := gName 5) (tt := tYes) (by rfl) sc_l_wrong.nd (pi_tupK (K := K) rfl (pe_tupI (pa_cons pe_str (pa_cons pe_str (pa_cons pe_str (pa_cons pe_str (pa_cons pe_str pa_nil))))))) (blkOk_by (own := [("_law_one", 5)]) (N := ["_law_words", "_law_ahead", "_law_some", "_law_fracs", "_law_numbers", "_law_one", "_law_name"]) (sc := defScope s_l_wrong) (by decide +kernel)) (fun _ _ _ _ _ => (pg_name (i := 5) sc_l_wrong.nd rfl (by first | exact Or.inl rfl | exact Or.inr rfl))) (fun _ _ _ _ _ => pts_nil) (fun _ _ _ _ _ => (pe_op op_catI (pe_lstI (pa_cons (pv 5) pa_nil)) (pe_slice (slL (K := K) rfl) (pv 0) (po_some pe_int) po_none))))))
      (pss_cons (ps_set (i := 2) sc_l_wrong.nd rfl (by first | exact Or.inl rfl | exact Or.inr rfl) (pe_op op_catI (pv 2) (pe_lstI (pa_cons (pe_op op_catI (pe_lstI (pa_cons pe_str pa_nil)) (pv 0)) (pa_cons (pe_op op_catI (pv 0) (pe_lstI (pa_cons pe_str pa_nil))) pa_nil)))))
      (pss_cons (ps_set (i := 2) sc_l_wrong.nd rfl (by first | exact Or.inl rfl | exact Or.inr rfl) (pe_op op_catI (pe_op op_catI (pv 2) (pe_lstI (pa_cons (pe_op op_catI (pe_op op_catI (pe_slice (slL (K := K) rfl) (pv 0) po_none (po_some pe_int)) (pe_lstI (pa_cons pe_str pa_nil))) (pe_slice (slL (K := K) rfl) (pv 0) (po_some pe_int) po_none)) (pa_cons (pe_lstI pa_nil) pa_nil)))) (pe_lc (own := [("_law_name", 6)]) (g := gName 6) (tt := tYes) (by rfl) sc_l_wrong.nd (pi_listK (K := K) rfl (pe_slice (slL (K := K) rfl) (pv 1) (po_some (pe_un un_neg pe_int)) po_none)) (blkOk_by (own := [("_law_name", 6)]) (N := ["_law_words", "_law_ahead", "_law_some", "_law_fracs", "_law_numbers", "_law_one", "_law_name"]) (sc := defScope s_l_wrong) (by decide +kernel)) (fun _ _ _ _ _ => (pg_name (i := 6) sc_l_wrong.nd rfl (by first | exact Or.inl rfl | exact Or.inr rfl))) (fun _ _ _ _ _ => pts_nil) (fun _ _ _ _ _ => (pe_op op_catI (pe_op op_catI (pe_slice (slL (K := K) rfl) (pv 0) po_none (po_some pe_int)) (pe_lstI (pa_cons (pv 6) pa_nil))) (pe_slice (slL (K := K) rfl) (pv 0) (po_some pe_int) po_none))))))
      (pss_cons (ps_if (pt_cmpR op_eq (pe_ix (ixL (K := K) rfl) (pv 0) pe_int (fun _ _ => rfl)) pe_str (nomark _)) (pss_one (ps_set (i := 2) sc_l_wrong.nd rfl (by first | exact Or.inl rfl | exact Or.inr rfl) (pe_op op_catI (pe_op op_catI (pv 2) (pe_lc (own := [("_law_one", 5)]) (g := gName 5) (tt := tYes) (by rfl) sc_l_wrong.nd (pi_tupK (K := K) rfl (pe_tupI (pa_cons pe_str (pa_cons pe_str (pa_cons pe_str (pa_cons pe_str (pa_cons pe_str pa_nil))))))) (blkOk_by (own := [("_law_one", 5)]) (N := ["_law_words", "_law_ahead", "_law_some", "_law_fracs", "_law_numbers", "_law_one", "_law_name"]) (sc := defScope s_l_wrong) (by decide +kernel)) (fun _ _ _ _ _ => (pg_name (i := 5) sc_l_wrong.nd rfl (by first | exact Or.inl rfl | exact Or.inr rfl))) (fun _ _ _ _ _ => pts_nil) (fun _ _ _ _ _ => (pe_op op_catI (pe_op op_catI (pe_slice (slL (K := K) rfl) (pv 0) po_none (po_some pe_int)) (pe_lstI (pa_cons (pv 5) pa_nil))) (pe_slice (slL (K := K) rfl) (pv 0) (po_some pe_int) po_none))))) (pe_lstI (pa_cons (pe_op op_catI (pe_slice (slL (K := K) rfl) (pv 0) po_none (po_some (pe_un un_neg pe_int))) (pe_lstI (pa_cons pe_str pa_nil))) pa_nil))))) (pss_one (ps_set (i := 2) sc_l_wrong.nd rfl (by first | exact Or.inl rfl | exact Or.inr rfl) (pe_op op_catI (pv 2) (pe_lstI (pa_cons (pe_op op_catI (pe_slice (slL (K := K) rfl) (pv 0) po_none (po_some (pe_un un_neg pe_int))) (pe_lstI (pa_cons pe_str pa_nil))) (pa_cons (pe_op op_catI (pe_slice (slL (K := K) rfl) (pv 0) po_none (po_some (pe_un un_neg pe_int))) (pe_lstI (pa_cons pe_str pa_nil))) (pa_cons (pe_op op_catI (pe_op op_catI (pe_slice (slL (K := K) rfl) (pv 0) po_none (po_some pe_int)) (pe_lstI (pa_cons pe_str pa_nil))) (pe_slice (slL (K := K) rfl) (pv 0) (po_some pe_int) po_none)) pa_nil))))))))
      (pss_one (ps_ret (pe_lc (own := [("_law_one", 5)]) (g := gName 5) (tt := tYes) (te := (tM1 (rJoinS K) (tC (.str " ")) (tVar 5))) (by rfl) sc_l_wrong.nd (pi_listK (K := K) rfl (pv 2)) (blkOk_by (own := [("_law_one", 5)]) (N := ["_law_words", "_law_ahead", "_law_some", "_law_fracs", "_law_numbers", "_law_one", "_law_name"]) (sc := defScope s_l_wrong) (by decide +kernel)) (fun _ _ _ _ _ => (pg_name (i := 5) sc_l_wrong.nd rfl (by first | exact Or.inl rfl | exact Or.inr rfl))) (fun _ _ _ _ _ => pts_nil) (fun _ _ _ _ _ => (pe_join pe_str (pv 5))))))))))))))), ?_⟩
    let Ph : Hp → Prop := fun H' => H' wl = some (.lst (w.map V.str))
    have S0 : Stb Ph := fun Ha Hb s h => s _ _ h
    have hh : ∀ H', Ph H' → H' wl = some (.lst (w.map V.str)) := fun _ h => h
    have hwl : ∀ H', Ph H' → ∃ o, H' wl = some o := fun _ h => ⟨_, h⟩
    have hv0 : ∀ σ : L2.St, σ[0]? = some (some (.ref wl)) → σ[0]? = some (some (.ref wl)) := fun σ h => h
    refine seq_asg (Evs.run (Pv := fun σ => σ[0]? = some (some (.ref wl))) (Ph := Ph) (ws := [w ++ (["1"] : List Str), cutS w none (some (-1)), cutS w none (some (-1)) ++ (["2/4"] : List Str), cutS w none (some (-1)) ++ (["1/1"] : List Str), cutS w none (some (-1)) ++ (["0/1"] : List Str)]) ?_ rfl hW fun l1 x1 H1 s1 h1 W1 => ?_)
    · refine evs_lst ?_ (by show 5 ≤ 100000; decide)
      refine eva_cons S0 (ev_cat S0 (ev_var hv0 hh) ev_one (by show _ + 1 ≤ _; omega)) ?_
      refine eva_cons S0 (ev_cut hv0 hh (fun _ _ _ => to_none) (fun _ _ _ => to_neg)) ?_
      exact eva_cons S0 (ev_end S0 w5 hh hv0 ev_one) (eva_cons S0 (ev_end S0 w5 hh hv0 ev_one) (eva_cons S0 (ev_end S0 w5 hh hv0 ev_one) eva_nil))
    refine seq_asg ⟨rfl, fun l3 H3 s3 n3 h3 => ?_⟩
    refine seq_asg ⟨_, 50, rfl, rfl, by decide, by decide, rfl, fun l4 H4 s4 n4 h4 => ?_⟩
    have W4 := W1.same (s3.trans s4)
    have hW4 := s4 _ _ (s3 _ _ (s1 _ _ hW))
    have hA4 := s4 _ _ (s3 _ _ (s1 _ _ hA))
    have hl4 := s4 _ _ (s3 _ _ h1)
    have h34 := s4 _ _ h3
    obtain ⟨ws1, ews1⟩ : ∃ ws1, ws1 = [w ++ (["1"] : List Str), cutS w none (some (-1)), cutS w none (some (-1)) ++ (["2/4"] : List Str), cutS w none (some (-1)) ++ (["1/1"] : List Str), cutS w none (some (-1)) ++ (["0/1"] : List Str)] := ⟨_, rfl⟩
    rw [← ews1] at W4
    have n1 : ws1.length = 5 := by rw [ews1] <;> rfl
    -- fractions and numbers
    refine seq_asg (Evs.run (Pv := fun σ => σ = [some (.ref wl), some (.ref al), some (.ref l1), some (.ref l3), some (.ref l4), none, none]) (Ph := fun H' => H' wl = some (.lst (w.map V.str)) ∧ (H' l1 = some (.lst x1) ∧ WL H' x1 ws1) ∧ H' l3 = some (.lst ((["1", "-1/2", "1/61", "3/2", "1/0", "/2", "1/", "1/2/3", "01/2", "0.5", ""] : List Str).map V.str)) ∧ H' l4 = some (.lst ((["0", "1000001", "01", "-1", "+1", "1/2", "", "x", Txt.mul "9" 50] : List Str).map V.str)))
      (ws := (ws1 ++ (["1", "-1/2", "1/61", "3/2", "1/0", "/2", "1/", "1/2/3", "01/2", "0.5", ""] : List Str).map (fun x => cutS w none (some (-1)) ++ [x])) ++ (["0", "1000001", "01", "-1", "+1", "1/2", "", "x", Txt.mul "9" 50] : List Str).map (fun x => cutS w none (some 2) ++ [x] ++ cutS w (some 3) none)) ?_ rfl ⟨hW4, ⟨hl4, W4⟩, h34, h4⟩ fun l5 x5 H5 s5 h5 W5 => ?_)
    · have S1 : Stb (fun H' : Hp => H' wl = some (.lst (w.map V.str)) ∧ (H' l1 = some (.lst x1) ∧ WL H' x1 ws1) ∧ H' l3 = some (.lst ((["1", "-1/2", "1/61", "3/2", "1/0", "/2", "1/", "1/2/3", "01/2", "0.5", ""] : List Str).map V.str)) ∧ H' l4 = some (.lst ((["0", "1000001", "01", "-1", "+1", "1/2", "", "x", Txt.mul "9" 50] : List Str).map V.str))) :=
        fun Ha Hb s ⟨a1, ⟨a2, a3⟩, a4, a5⟩ => ⟨s _ _ a1, ⟨s _ _ a2, a3.same s⟩, s _ _ a4, s _ _ a5⟩
      refine evs_cat S1 (evs_cat S1 (evs_var (l := l1) (xs := x1) (fun σ e => by rw [e] <;> rfl) (fun H' h => h.2.1)) (evs_lc (wl := wl) (Pw := fun s σ => σ[0]? = some (some (.ref wl)) ∧ σ[5]? = some (some (.str s))) S1 (src_var (l := l3) (fun σ e => by rw [e] <;> rfl) (fun H' h => h.2.2.1)) (fun σ e s => by rw [e]; exact ⟨⟨rfl, rfl⟩, rfl⟩) (fun H' h => ⟨_, h.1⟩) (fun s _ => ?_) (by decide)) (by rw [n1, List.length_map]; decide)) (evs_lc (wl := wl) (Pw := fun s σ => σ[0]? = some (some (.ref wl)) ∧ σ[5]? = some (some (.str s))) S1 (src_var (l := l4) (fun σ e => by rw [e] <;> rfl) (fun H' h => h.2.2.2)) (fun σ e s => by rw [e]; exact ⟨⟨rfl, rfl⟩, rfl⟩) (fun H' h => ⟨_, h.1⟩) (fun s _ => ?_) (by show 9 ≤ 1000; decide)) (by rw [List.length_append, n1, List.length_map, List.length_map]; show 5 + 11 + 9 ≤ 1000; decide)
      · exact ev_end S1 w5 (fun H' h => h.1) (fun σ h => h.1) (ev_oneV fun σ h => h.2)
      · exact ev_mid S1 w5 (fun H' h => h.1) (fun σ h => h.1) (ev_oneV fun σ h => h.2)
    have hW5 := s5 _ _ hW4
    have hA5 := s5 _ _ hA4
    have ca : (cutS as (some (-1)) none).length ≤ 48 := by
      unfold cutS
      rw [List.length_take, List.length_drop]
      omega
    obtain ⟨ws5, e5⟩ : ∃ ws5, ws5 = (ws1 ++ (["1", "-1/2", "1/61", "3/2", "1/0", "/2", "1/", "1/2/3", "01/2", "0.5", ""] : List Str).map (fun x => cutS w none (some (-1)) ++ [x])) ++ (["0", "1000001", "01", "-1", "+1", "1/2", "", "x", Txt.mul "9" 50] : List Str).map (fun x => cutS w none (some 2) ++ [x] ++ cutS w (some 3) none) := ⟨_, rfl⟩
    rw [← e5] at W5
    have n5 : ws5.length = 25 := by rw [e5, List.length_append, List.length_append, n1, List.length_map, List.length_map] <;> rfl
    refine seq_asg (Evs.run (Pv := fun σ => σ = [some (.ref wl), some (.ref al), some (.ref l5), some (.ref l3), some (.ref l4), none, none]) (Ph := fun H' => H' wl = some (.lst (w.map V.str)) ∧ (H' l5 = some (.lst x5) ∧ WL H' x5 ws5) ∧ H' al = some (.lst (as.map V.str)))
      (ws := ws5 ++ (["abcdefghi", "", "A", "a1", "a-b"] : List Str).map (fun x => cutS w none (some 1) ++ [x] ++ cutS w (some 2) none)) ?_ rfl ⟨hW5, ⟨h5, W5⟩, hA5⟩ fun l6 x6 H6 s6 h6 W6 => ?_)
    · exact evs_cat stb3 (evs_var (l := l5) (xs := x5) (fun σ e => by rw [e] <;> rfl) (fun H' h => h.2.1)) (evs_lc (wl := wl) (Pw := fun s σ => σ[0]? = some (some (.ref wl)) ∧ σ[5]? = some (some (.str s))) stb3 (src_tup (xs := (["abcdefghi", "", "A", "a1", "a-b"] : List Str)) (fun σ H Q q => q) (by decide)) (fun σ e s => by rw [e]; exact ⟨⟨rfl, rfl⟩, rfl⟩) (fun H' h => ⟨_, h.1⟩) (fun s _ => ev_mid stb3 w5 (fun H' h => h.1) (fun σ h => h.1) (ev_oneV fun σ h => h.2)) (by decide)) (by rw [n5, List.length_map]; show 25 + 5 ≤ 1000; decide)
    have hW6 := s6 _ _ hW5
    have hA6 := s6 _ _ hA5
    obtain ⟨ws6, e6⟩ : ∃ ws6, ws6 = ws5 ++ (["abcdefghi", "", "A", "a1", "a-b"] : List Str).map (fun x => cutS w none (some 1) ++ [x] ++ cutS w (some 2) none) := ⟨_, rfl⟩
    rw [← e6] at W6
    have n6 : ws6.length = 30 := by rw [e6, List.length_append, n5, List.length_map] <;> rfl
    refine seq_asg (Evs.run (Pv := fun σ => σ = [some (.ref wl), some (.ref al), some (.ref l6), some (.ref l3), some (.ref l4), none, none]) (Ph := fun H' => H' wl = some (.lst (w.map V.str)) ∧ (H' l6 = some (.lst x6) ∧ WL H' x6 ws6) ∧ H' al = some (.lst (as.map V.str)))
      (ws := ws6 ++ (["kettles", "Kettle", "", "mold", "juice"] : List Str).map (fun x => [x] ++ cutS w (some 1) none)) ?_ rfl ⟨hW6, ⟨h6, W6⟩, hA6⟩ fun l7 x7 H7 s7 h7 W7 => ?_)
    · exact evs_cat stb3 (evs_var (l := l6) (xs := x6) (fun σ e => by rw [e] <;> rfl) (fun H' h => h.2.1)) (evs_lc (wl := wl) (Pw := fun s σ => σ[0]? = some (some (.ref wl)) ∧ σ[5]? = some (some (.str s))) stb3 (src_tup (xs := (["kettles", "Kettle", "", "mold", "juice"] : List Str)) (fun σ H Q q => q) (by decide)) (fun σ e s => by rw [e]; exact ⟨⟨rfl, rfl⟩, rfl⟩) (fun H' h => ⟨_, h.1⟩) (fun s _ => ev_cat stb3 (ev_oneV fun σ h => h.2) (ev_cut (fun σ h => h.1) (fun H' h => h.1) (fun _ _ _ => to_int) (fun _ _ _ => to_none)) (by have := cut_le w5 (some 1) none; show 1 + _ ≤ _; omega)) (by decide)) (by rw [n6, List.length_map]; show 30 + 5 ≤ 1000; decide)
    have hW7 := s7 _ _ hW6
    have hA7 := s7 _ _ hA6
    obtain ⟨ws7, e7⟩ : ∃ ws7, ws7 = ws6 ++ (["kettles", "Kettle", "", "mold", "juice"] : List Str).map (fun x => [x] ++ cutS w (some 1) none) := ⟨_, rfl⟩
    rw [← e7] at W7
    have n7 : ws7.length = 35 := by rw [e7, List.length_append, n6, List.length_map] <;> rfl
    refine seq_asg (Evs.run (Pv := fun σ => σ = [some (.ref wl), some (.ref al), some (.ref l7), some (.ref l3), some (.ref l4), none, none]) (Ph := fun H' => H' wl = some (.lst (w.map V.str)) ∧ (H' l7 = some (.lst x7) ∧ WL H' x7 ws7) ∧ H' al = some (.lst (as.map V.str)))
      (ws := ws7 ++ [([""] : List Str) ++ w, w ++ ([""] : List Str)]) ?_ rfl ⟨hW7, ⟨h7, W7⟩, hA7⟩ fun l8 x8 H8 s8 h8 W8 => ?_)
    · exact evs_cat stb3 (evs_var (l := l7) (xs := x7) (fun σ e => by rw [e] <;> rfl) (fun H' h => h.2.1)) (evs_lst (eva_cons stb3 (ev_cat stb3 ev_one (ev_var (fun σ e => by rw [e] <;> rfl) (fun H' h => h.1)) (by show 1 + _ ≤ _; omega)) (eva_cons stb3 (ev_cat stb3 (ev_var (fun σ e => by rw [e] <;> rfl) (fun H' h => h.1)) ev_one (by show _ + 1 ≤ _; omega)) eva_nil)) (by show 2 ≤ 100000; decide)) (by rw [n7]; show 35 + 2 ≤ 1000; decide)
    have hW8 := s8 _ _ hW7
    have hA8 := s8 _ _ hA7
    obtain ⟨ws8, e8⟩ : ∃ ws8, ws8 = ws7 ++ [([""] : List Str) ++ w, w ++ ([""] : List Str)] := ⟨_, rfl⟩
    rw [← e8] at W8
    have n8 : ws8.length = 37 := by rw [e8, List.length_append, n7] <;> rfl
    refine seq_asg (Evs.run (Pv := fun σ => σ = [some (.ref wl), some (.ref al), some (.ref l8), some (.ref l3), some (.ref l4), none, none]) (Ph := fun H' => H' wl = some (.lst (w.map V.str)) ∧ (H' l8 = some (.lst x8) ∧ WL H' x8 ws8) ∧ H' al = some (.lst (as.map V.str)))
      (ws := (ws8 ++ [cutS w none (some 1) ++ ([""] : List Str) ++ cutS w (some 1) none, []]) ++ (cutS as (some (-1)) none).map (fun x => cutS w none (some 1) ++ [x] ++ cutS w (some 2) none)) ?_ rfl ⟨hW8, ⟨h8, W8⟩, hA8⟩ fun l9 x9 H9 s9 h9 W9 => ?_)
    · exact evs_cat stb3 (evs_cat stb3 (evs_var (l := l8) (xs := x8) (fun σ e => by rw [e] <;> rfl) (fun H' h => h.2.1)) (evs_lst (eva_cons (wl := wl) stb3 (ev_mid stb3 w5 (fun H' h => h.1) (fun σ e => by rw [e] <;> rfl) ev_one) (eva_cons (wl := wl) stb3 ev_nil eva_nil)) (by show 2 ≤ 100000; decide)) (by rw [n8]; show 37 + 2 ≤ 1000; decide)) (evs_lc (wl := wl) (Pw := fun s σ => σ[0]? = some (some (.ref wl)) ∧ σ[6]? = some (some (.str s))) stb3 (src_cut (l := al) (fun σ e => by rw [e] <;> rfl) (fun H' h => h.2.2) (fun _ _ _ => to_neg) (fun _ _ _ => to_none)) (fun σ e s => by rw [e]; exact ⟨⟨rfl, rfl⟩, rfl⟩) (fun H' h => ⟨_, h.1⟩) (fun s _ => ev_mid stb3 w5 (fun H' h => h.1) (fun σ h => h.1) (ev_oneV fun σ h => h.2)) (by omega)) (by rw [List.length_append, n8, List.length_map]; show 37 + 2 + _ ≤ 1000; omega)
    have hW9 := s9 _ _ hW8
    have hA9 := s9 _ _ hA8
    have eL : wrongsL w as = (ws8 ++ [cutS w none (some 1) ++ ([""] : List Str) ++ cutS w (some 1) none, []]) ++ (cutS as (some (-1)) none).map (fun x => cutS w none (some 1) ++ [x] ++ cutS w (some 2) none) := by rw [e8, e7, e6, e5, ews1] <;> rfl
    rw [← eL] at W9
    have s09 : Same H H9 := s1.trans (s3.trans (s4.trans (s5.trans (s6.trans (s7.trans (s8.trans s9))))))
    obtain ⟨wd, wr, rfl⟩ : ∃ a b, w = a :: b := by
      cases w with
      | nil => simp at w4
      | cons a b => exact ⟨a, b, rfl⟩
    have fin : ∀ (l : Addr) (x : List V) (H' : Hp), Same H H' → H' l = some (.lst x) → WL H' x (wrongsL (wd :: wr) as ++ wrongsM (wd :: wr)) → tRet (tLc (iList K (tVar 2)) (gName 5) tYes (tM1 (rJoinS K) (tC (.str " ")) (tVar 5)) [5]) { nx := fun _ H' => Q .non H', rt := Q } [some (.ref wl), some (.ref al), some (.ref l), some (.ref l3), some (.ref l4), none, none] H' := fun l x H' s' hl W => by
      refine ⟨_, rfl, l, rfl, ⟨_, SqL.of hl⟩, fun D hD => ?_⟩
      have wn := W.len
      have lW : (wrongsL (wd :: wr) as ++ wrongsM (wd :: wr)).length ≤ 1000 := by
        have lm : (wrongsM (wd :: wr)).length ≤ 6 := by
          unfold wrongsM
          split
          · show 6 ≤ 6
            decide
          · show 3 ≤ 6
            decide
        rw [List.length_append, eL, List.length_append, List.length_append, n8, List.length_map]
        show 37 + 2 + _ + _ ≤ 1000
        omega
      refine lc_it (walk_list (K := K) (a := l) (xs := x)) (fun j Hx => Same H' Hx ∧ Hx D = some (.lst ((((wrongsL (wd :: wr) as ++ wrongsM (wd :: wr)).take j).map fun s => Txt.join " " s).map V.str))) ⟨same_new hD, upd_same⟩ (fun j Hx _ z => SqL.of (z.1 _ _ hl)) ?_ ?_
      · rintro j v Hb Ha hj ⟨sa, hDa⟩ ⟨rfl, hv⟩
        have hj' : j < (wrongsL (wd :: wr) as ++ wrongsM (wd :: wr)).length := by rw [← wn]; exact hj
        obtain ⟨p, rfl, hp⟩ := W.get (List.getElem?_eq_getElem hj') hv
        obtain ⟨k7, k100⟩ := ok _ (List.getElem_mem hj')
        refine ⟨rfl, yesT ?_⟩
        refine ⟨⟨_, rfl⟩, _, rfl, " ", p, _, rfl, rfl, .inl (SqL.of (sa _ _ hp)), ?_, ?_⟩
        · have := sum_100 k100
          show _ + _ * 1 ≤ 16777216
          omega
        · refine ⟨_, hDa, by rw [List.length_map, List.length_map, List.length_take]; exact small' (by omega), Same.put sa hD, ?_⟩
          rw [upd_same, List.take_succ, List.getElem?_eq_getElem hj', List.map_append, List.map_append] <;> rfl
      · rintro Ha ⟨sa, hDa⟩
        rw [wn, List.take_length] at hDa
        exact q D Ha (s'.trans sa) hDa
    refine seq_if ⟨_, rfl, wl, _, 0, .str wd, rfl, rfl, SqL.of hW9, at0, rfl, _, rfl, ite2 (fun c => ?_) (fun c => ?_)⟩
    · have ew : wd = "kettle" := by
        have := of_decide_eq_true c
        cases this
        rfl
      have eM : wrongsM (wd :: wr) = (["10001", "00", "-1", "", "1/2"] : List Str).map (fun x => cutS (wd :: wr) none (some 3) ++ [x] ++ cutS (wd :: wr) (some 4) none) ++ [cutS (wd :: wr) none (some (-1)) ++ (["0"] : List Str)] := if_pos (by rw [ew] <;> rfl)
      have lL : (wrongsL (wd :: wr) as).length ≤ 900 := by
        rw [eL, List.length_append, List.length_append, n8, List.length_map]
        show 37 + 2 + _ ≤ 900
        omega
      refine seq_asg (Evs.run (Pv := fun σ => σ = [some (.ref wl), some (.ref al), some (.ref l9), some (.ref l3), some (.ref l4), none, none]) (Ph := fun H' => H' wl = some (.lst ((wd :: wr).map V.str)) ∧ (H' l9 = some (.lst x9) ∧ WL H' x9 (wrongsL (wd :: wr) as)) ∧ H' al = some (.lst (as.map V.str))) (ws := (wrongsL (wd :: wr) as ++ (["10001", "00", "-1", "", "1/2"] : List Str).map (fun x => cutS (wd :: wr) none (some 3) ++ [x] ++ cutS (wd :: wr) (some 4) none)) ++ [cutS (wd :: wr) none (some (-1)) ++ (["0"] : List Str)]) ?_ rfl ⟨hW9, ⟨h9, W9⟩, hA9⟩ fun l10 x10 H10 s10 h10 W10 => ?_)
      · exact evs_cat stb3 (evs_cat stb3 (evs_var (l := l9) (xs := x9) (fun σ e => by rw [e] <;> rfl) (fun H' h => h.2.1)) (evs_lc (wl := wl) (Pw := fun s σ => σ[0]? = some (some (.ref wl)) ∧ σ[5]? = some (some (.str s))) stb3 (src_tup (xs := (["10001", "00", "-1", "", "1/2"] : List Str)) (fun σ H Q q => q) (by decide)) (fun σ e s => by rw [e]; exact ⟨⟨rfl, rfl⟩, rfl⟩) (fun H' h => ⟨_, h.1⟩) (fun s _ => ev_mid stb3 w5 (fun H' h => h.1) (fun σ h => h.1) (ev_oneV fun σ h => h.2)) (by decide)) (by rw [List.length_map]; show _ + 5 ≤ 1000; omega)) (evs_lst (eva_cons (wl := wl) stb3 (ev_end stb3 w5 (fun H' h => h.1) (fun σ e => by rw [e] <;> rfl) ev_one) eva_nil) (by show 1 ≤ 100000; decide)) (by rw [List.length_append, List.length_map]; show _ + 5 + 1 ≤ 1000; omega)
      · rw [List.append_assoc, ← eM] at W10
        exact fin l10 x10 H10 (s09.trans s10) h10 W10
    · have ew : ¬ (wd :: wr)[0]? = some ("kettle" : Str) := fun z => of_decide_eq_false (Bool.eq_false_iff.mpr c) (by cases z; rfl)
      have eM : wrongsM (wd :: wr) = [cutS (wd :: wr) none (some (-1)) ++ (["1/13"] : List Str), cutS (wd :: wr) none (some (-1)) ++ (["12/13"] : List Str), cutS (wd :: wr) none (some 2) ++ (["5"] : List Str) ++ cutS (wd :: wr) (some 2) none] := if_neg ew
      have lL : (wrongsL (wd :: wr) as).length ≤ 900 := by
        rw [eL, List.length_append, List.length_append, n8, List.length_map]
        show 37 + 2 + _ ≤ 900
        omega
      refine seq_asg (Evs.run (Pv := fun σ => σ = [some (.ref wl), some (.ref al), some (.ref l9), some (.ref l3), some (.ref l4), none, none]) (Ph := fun H' => H' wl = some (.lst ((wd :: wr).map V.str)) ∧ (H' l9 = some (.lst x9) ∧ WL H' x9 (wrongsL (wd :: wr) as)) ∧ H' al = some (.lst (as.map V.str))) (ws := wrongsL (wd :: wr) as ++ [cutS (wd :: wr) none (some (-1)) ++ (["1/13"] : List Str), cutS (wd :: wr) none (some (-1)) ++ (["12/13"] : List Str), cutS (wd :: wr) none (some 2) ++ (["5"] : List Str) ++ cutS (wd :: wr) (some 2) none]) ?_ rfl ⟨hW9, ⟨h9, W9⟩, hA9⟩ fun l10 x10 H10 s10 h10 W10 => ?_)
      · exact evs_cat stb3 (evs_var (l := l9) (xs := x9) (fun σ e => by rw [e] <;> rfl) (fun H' h => h.2.1)) (evs_lst (eva_cons (wl := wl) stb3 (ev_end stb3 w5 (fun H' h => h.1) (fun σ e => by rw [e] <;> rfl) ev_one) (eva_cons (wl := wl) stb3 (ev_end stb3 w5 (fun H' h => h.1) (fun σ e => by rw [e] <;> rfl) ev_one) (eva_cons (wl := wl) stb3 (ev_mid stb3 w5 (fun H' h => h.1) (fun σ e => by rw [e] <;> rfl) ev_one) eva_nil))) (by show 3 ≤ 100000; decide)) (by show _ + 3 ≤ 1000; omega)
      · rw [← eM] at W10
        exact fin l10 x10 H10 (s09.trans s10) h10 W10

end
end KR
namespace KR
open PySem PySem.Spec PyProof.Rows L2
section
variable {P : Program} {w : World} {K : PySem.W.Frag} {mg : Str → Option Value} {base : Heap}
/-! ### texts of wrong rows -/
def Lx (y : Str) : Prop := (∀ c ∈ TL.tl y, 32 ≤ c) ∧ y.length ≤ 707
theorem lx_words {ws : List Str} (h : ∀ w ∈ ws, Wd w) (l : ws.length ≤ 7) : Lx (Txt.join " " ws) := by
  rw [TL.join_eq]
  refine ⟨fun c hc => ?_, ?_⟩
  · rw [TL.tl_join, lit_blank] at hc
    rcases mem_joinL hc with h1 | ⟨p, hp, h1⟩
    · rw [List.mem_singleton.mp h1]
      decide
    · obtain ⟨w, hw, rfl⟩ := List.mem_map.mp hp
      have := (h w hw).1 c h1
      omega
  · rw [TL.len_tl, TL.tl_join, lit_blank]
    have k := len_joinL (s := [32]) (m := 100) (ps := ws.map TL.tl) fun p hp => by
      obtain ⟨w, hw, rfl⟩ := List.mem_map.mp hp
      rw [← TL.len_tl]
      exact (h w hw).2
    rw [List.length_map] at k
    refine Nat.le_trans k ?_
    show ws.length * 101 ≤ 707
    omega
theorem split_lx {ls : List Str} (h : ∀ w ∈ ls, Lx w) (ne : ls ≠ []) : Txt.split (Txt.join "\n" ls) "\n" = ls := TL.split_join (s := 10) (S := []) lit_feed (by decide +kernel) ne fun p hp hc => by
  have := (h p hp).1 _ hc
  omega
theorem len_lx {ls : List Str} (h : ∀ w ∈ ls, Lx w) (l : ls.length ≤ 50) : (Txt.join "\n" ls).length ≤ 50000 := by
  rw [TL.join_eq, TL.len_tl, TL.tl_join, lit_feed]
  have k := len_joinL (s := [10]) (m := 707) (ps := ls.map TL.tl) fun p hp => by
    obtain ⟨w, hw, rfl⟩ := List.mem_map.mp hp
    rw [← TL.len_tl]
    exact (h w hw).2
  rw [List.length_map] at k
  refine Nat.le_trans k ?_
  show ls.length * 708 ≤ 50000
  omega
theorem read_lx {ls : List Str} (h : ∀ w ∈ ls, Lx w) (ne : ls ≠ []) : readP (Txt.join "\n" ls) = goP 0 ([], []) (ls.map lineP) := by
  unfold readP
  rw [split_lx h ne]
theorem step_bad {st : StP} {ps : List Pt} (h1 : kettleB ps = false) (h2 : mouldB ps = false) : stepP st ps = none := by
  unfold stepP
  rw [stand_no h1 h2, if_neg Bool.false_ne_true]
theorem step_dup {st : StP} {ps : List Pt} (h : nmO ps ∈ (st.1 ++ st.2).map nmO) : stepP st ps = none := by
  unfold stepP standB
  rw [decide_eq_true h, Bool.not_true, Bool.and_false, if_neg Bool.false_ne_true]
theorem mou_ket {ps : List Pt} (h : mouldB ps = true) : kettleB ps = false := by
  obtain ⟨x, r, t, b, rfl, _⟩ := mouldB_v h
  rfl
theorem step_ket {st : StP} {ps : List Pt} (k : kettleB ps = true) (e : st.2 = []) (l : st.1.length < 8) (n : nmO ps ∉ (st.1 ++ st.2).map nmO) : stepP st ps = some (st.1 ++ [ps], st.2) := by
  unfold stepP
  rw [stand_k k, decide_eq_false n, decide_eq_true l, e, if_pos k] <;> rfl
theorem step_mou {st : StP} {ps : List Pt} (m : mouldB ps = true) (l : st.2.length < 40) (n : nmO ps ∉ (st.1 ++ st.2).map nmO) : stepP st ps = some (st.1, st.2 ++ [ps]) := by
  unfold stepP
  rw [stand_m (mou_ket m) m, decide_eq_false n, decide_eq_true l, if_pos (show (true && !false) = true from rfl), if_neg (by rw [mou_ket m]; exact Bool.false_ne_true)]
/-- a kettle after moulds, or one too many -/
theorem step_late {st : StP} {ps : List Pt} (k : kettleB ps = true) (e : st.2 ≠ [] ∨ ¬ st.1.length < 8) : stepP st ps = none := by
  unfold stepP
  rw [stand_k k]
  have z : (st.2.isEmpty && decide (st.1.length < 8)) = false := by
    rcases e with e | e
    · cases h : st.2 with
      | nil => exact absurd h e
      | cons a b => rfl
    · rw [decide_eq_false e, Bool.and_false]
  rw [z, Bool.false_and, if_neg Bool.false_ne_true]
theorem step_full {st : StP} {ps : List Pt} (m : mouldB ps = true) (e : ¬ st.2.length < 40) : stepP st ps = none := by
  unfold stepP
  rw [stand_m (mou_ket m) m, decide_eq_false e, Bool.false_and, if_neg Bool.false_ne_true]
theorem goP_kets : ∀ (pk rest : List (List Pt)) (n : Nat) (a : List (List Pt)), (∀ ps ∈ pk, kettleB ps = true) → a.length + pk.length ≤ 8 → ((a ++ pk).map nmO).Nodup → goP n (a, []) (pk ++ rest) = goP (n + pk.length) (a ++ pk, []) rest
  | [], rest, n, a, _, _, _ => by rw [List.append_nil] <;> rfl
  | ps :: pk, rest, n, a, hk, l, nd => by
    rw [List.length_cons] at l
    have nd2 : ((a.map nmO) ++ nmO ps :: pk.map nmO).Nodup := by rw [List.map_append] at nd; exact nd
    have nin : nmO ps ∉ (a ++ []).map nmO := by
      rw [List.append_nil]
      intro z
      exact (List.nodup_append.mp nd2).2.2 _ z _ List.mem_cons_self rfl
    rw [List.cons_append, goP_some (step_ket (st := (a, [])) (hk ps List.mem_cons_self) rfl (by show a.length < 8; omega) nin)]
    show goP (n + 1) (a ++ [ps], []) (pk ++ rest) = _
    rw [goP_kets pk rest (n + 1) (a ++ [ps]) (fun q hq => hk q (List.mem_cons_of_mem _ hq)) (by rw [List.length_append]; show a.length + 1 + _ ≤ 8; omega) (by rw [List.append_assoc]; exact nd), List.append_assoc, List.length_cons]
    have : n + 1 + pk.length = n + (pk.length + 1) := by omega
    rw [this] <;> rfl
theorem goP_mous : ∀ (pm rest : List (List Pt)) (n : Nat) (a b : List (List Pt)), (∀ ps ∈ pm, mouldB ps = true) → b.length + pm.length ≤ 40 → ((a ++ (b ++ pm)).map nmO).Nodup → goP n (a, b) (pm ++ rest) = goP (n + pm.length) (a, b ++ pm) rest
  | [], rest, n, a, b, _, _, _ => by rw [List.append_nil] <;> rfl
  | ps :: pm, rest, n, a, b, hk, l, nd => by
    rw [List.length_cons] at l
    have nd2 : ((a ++ b).map nmO ++ nmO ps :: pm.map nmO).Nodup := by rw [← List.append_assoc, List.map_append] at nd; exact nd
    have nin : nmO ps ∉ (a ++ b).map nmO := fun z => (List.nodup_append.mp nd2).2.2 _ z _ List.mem_cons_self rfl
    rw [List.cons_append, goP_some (step_mou (st := (a, b)) (hk ps List.mem_cons_self) (by show b.length < 40; omega) nin)]
    show goP (n + 1) (a, b ++ [ps]) (pm ++ rest) = _
    rw [goP_mous pm rest (n + 1) a (b ++ [ps]) (fun q hq => hk q (List.mem_cons_of_mem _ hq)) (by rw [List.length_append]; show b.length + 1 + _ ≤ 40; omega) (by rw [List.append_assoc]; exact nd), List.append_assoc, List.length_cons]
    have : n + 1 + pm.length = n + (pm.length + 1) := by omega
    rw [this] <;> rfl
/-- rows that can stand -/
structure Gr (pk pm : List (List Pt)) : Prop where
  k : ∀ ps ∈ pk, kettleB ps = true
  m : ∀ ps ∈ pm, mouldB ps = true
  k8 : pk.length ≤ 8
  m40 : pm.length ≤ 40
  nd : ((pk ++ pm).map nmO).Nodup
theorem goP_take {pk pm : List (List Pt)} (G : Gr pk pm) {k : Nat} (hk : k ≤ (pk ++ pm).length) (rest : List (List Pt)) : goP 0 ([], []) ((pk ++ pm).take k ++ rest) = goP k (pk.take k, pm.take (k - pk.length)) rest := by
  have l1 : (pk.take k).length ≤ 8 := by
    have := G.k8
    rw [List.length_take]
    omega
  have l2 : (pm.take (k - pk.length)).length ≤ 40 := by
    have := G.m40
    rw [List.length_take]
    omega
  have s1 : (pk.take k).Sublist pk := List.take_sublist _ _
  have s2 : (pm.take (k - pk.length)).Sublist pm := List.take_sublist _ _
  rw [List.take_append, List.append_assoc, goP_kets (pk.take k) _ 0 [] (fun ps h => G.k ps (s1.subset h)) (by show 0 + _ ≤ 8; omega) (by
    rw [List.nil_append]
    refine G.nd.sublist (List.Sublist.map nmO (s1.trans (List.sublist_append_left _ _)))), goP_mous (pm.take (k - pk.length)) rest _ _ [] (fun ps h => G.m ps (s2.subset h)) (by show 0 + _ ≤ 40; omega) (by
    rw [List.nil_append, List.nil_append]
    exact G.nd.sublist (List.Sublist.map nmO (List.Sublist.append s1 s2)))]
  rw [List.length_append] at hk
  have e : 0 + (pk.take k).length + (pm.take (k - pk.length)).length = k := by
    rw [List.length_take, List.length_take]
    omega
  rw [e] <;> rfl
theorem read_at {L M : List Str} {pk pm : List (List Pt)} (G : Gr pk pm) (eL : L.map lineP = pk ++ pm) {k : Nat} {w : Str} (hk : M[k]? = some w) (tk : M.take k = L.take k) (kl : k ≤ L.length) (lx : ∀ y ∈ M, Lx y) (bad : stepP (pk.take k, pm.take (k - pk.length)) (lineP w) = none) : readP (Txt.join "\n" M) = .inl k := by
  have km := (List.getElem?_eq_some_iff.mp hk)
  have ne : M ≠ [] := fun z => by
    rw [z] at km
    exact absurd km.1 (Nat.not_lt_zero _)
  have e : M.map lineP = (pk ++ pm).take k ++ (lineP w :: (M.drop (k + 1)).map lineP) := by
    rw [← eL, ← List.map_take, ← tk, ← List.map_cons, ← List.map_append]
    have : M.drop k = w :: M.drop (k + 1) := by rw [List.drop_eq_getElem_cons km.1, km.2]
    rw [← this, List.take_append_drop]
  rw [read_lx lx ne, e, goP_take G (by rw [← eL, List.length_map]; exact kl), goP_none bad]
/-! ### the words of a row -/
/-- words that are no row at this state -/
def Wr (st : StP) (s : List Str) : Prop := s.length ≤ 7 ∧ (∀ x ∈ s, Wd x) ∧ stepP st (lineP (Txt.join " " s)) = none
theorem wr_of {st : StP} {s : List Str} (l : s.length ≤ 7) (w : ∀ x ∈ s, Wd x) (ne : s ≠ []) (h : stepP st (thingP s) = none) : Wr st s := ⟨l, w, by unfold lineP; rw [split_words w ne]; exact h⟩
theorem wr_no {st : StP} {s : List Str} (l : s.length ≤ 7) (w : ∀ x ∈ s, Wd x) (ne : s ≠ []) (h : thingP s = []) : Wr st s := wr_of l w ne (by rw [h]; exact step_bad rfl rfl)
theorem thing5 {w n r f m : Str} (h : w ≠ "kettle") : thingP [w, n, r, f, m] = [] := if_neg (c := w = "kettle") (t := [Pt.s n, numP r, numP f, fracW (TL.tl m)]) (e := ([] : List Pt)) h
theorem thing4 {w n r m : Str} (h : w ≠ "mould") : thingP [w, n, r, m] = [] := if_neg (c := w = "mould") (t := [Pt.s n, numP r, fracW (TL.tl m)]) (e := ([] : List Pt)) h
theorem wr_nil {st : StP} : Wr st [] := ⟨Nat.zero_le _, nofun, by
  have e : lineP (Txt.join " " []) = [] := by decide +kernel
  rw [e]
  exact step_bad rfl rfl⟩
theorem wd4 {a b c d : Str} (h1 : Wd a) (h2 : Wd b) (h3 : Wd c) (h4 : Wd d) : ∀ x ∈ [a, b, c, d], Wd x := List.forall_mem_cons.mpr ⟨h1, List.forall_mem_cons.mpr ⟨h2, List.forall_mem_cons.mpr ⟨h3, List.forall_mem_cons.mpr ⟨h4, nofun⟩⟩⟩⟩
theorem wd_cons {a : Str} {s : List Str} (h : Wd a) (t : ∀ x ∈ s, Wd x) : ∀ x ∈ a :: s, Wd x := List.forall_mem_cons.mpr ⟨h, t⟩
theorem wd_none : Wd "" := ⟨by decide +kernel, by decide +kernel⟩
section
variable {st : StP} {n r f m : Str} (hn : Wd n) (hr : Wd r) (hf : Wd f) (hm : Wd m)
include hn hr hf hm
theorem wr_k (h : kettleB [.s n, numP r, numP f, fracW (TL.tl m)] = false ∨ n ∈ (st.1 ++ st.2).map nmO) : Wr st ["kettle", n, r, f, m] :=
  wr_of (by show 5 ≤ 7; decide) (wd_cons wd_kettle (wd4 hn hr hf hm)) nofun (by
    rw [thingP_k]
    exact h.elim (fun h => step_bad h rfl) (fun h => step_dup h))
theorem wr_k1 (h : nameB (.s n) = false) : Wr st ["kettle", n, r, f, m] := wr_k hn hr hf hm (.inl (by show (nameB (.s n) && _ && _ && _) = false; rw [h] <;> rfl))
theorem wr_k2 (h : numB 1 1000000 (numP r) = false) : Wr st ["kettle", n, r, f, m] := wr_k hn hr hf hm (.inl (by show (_ && numB 1 1000000 (numP r) && _ && _) = false; rw [h, Bool.and_false, Bool.false_and, Bool.false_and]))
theorem wr_k3 (h : numB 0 10000 (numP f) = false) : Wr st ["kettle", n, r, f, m] := wr_k hn hr hf hm (.inl (by show (_ && _ && numB 0 10000 (numP f) && _) = false; rw [h, Bool.and_false, Bool.false_and]))
theorem wr_k4 (h : markB (fracW (TL.tl m)) = false) : Wr st ["kettle", n, r, f, m] := wr_k hn hr hf hm (.inl (by show (_ && _ && _ && markB (fracW (TL.tl m))) = false; rw [h, Bool.and_false]))
end
section
variable {st : StP} {n r m : Str} (hn : Wd n) (hr : Wd r) (hm : Wd m)
include hn hr hm
theorem wr_m (h : mouldB [.s n, numP r, fracW (TL.tl m)] = false ∨ n ∈ (st.1 ++ st.2).map nmO) : Wr st ["mould", n, r, m] :=
  wr_of (by show 4 ≤ 7; decide) (wd4 wd_mould hn hr hm) nofun (by
    rw [thingP_m]
    exact h.elim (fun h => step_bad rfl h) (fun h => step_dup h))
theorem wr_m1 (h : nameB (.s n) = false) : Wr st ["mould", n, r, m] := wr_m hn hr hm (.inl (by show (nameB (.s n) && _ && _) = false; rw [h] <;> rfl))
theorem wr_m2 (h : numB 1 1000000 (numP r) = false) : Wr st ["mould", n, r, m] := wr_m hn hr hm (.inl (by show (_ && numB 1 1000000 (numP r) && _) = false; rw [h, Bool.and_false, Bool.false_and]))
theorem wr_m4 (h : dripB (fracW (TL.tl m)) = false) : Wr st ["mould", n, r, m] := wr_m hn hr hm (.inl (by show (_ && _ && dripB (fracW (TL.tl m))) = false; rw [h, Bool.and_false]))
end
theorem all_app {α : Type} {P : α → Prop} {a b : List α} (h : ∀ x ∈ a, P x) (g : ∀ x ∈ b, P x) : ∀ x ∈ a ++ b, P x := fun x hx => (List.mem_append.mp hx).elim (h x) (g x)
theorem all_cons {α : Type} {P : α → Prop} {x : α} {b : List α} (h : P x) (g : ∀ x ∈ b, P x) : ∀ y ∈ x :: b, P y := List.forall_mem_cons.mpr ⟨h, g⟩
theorem all_map {α β : Type} {P : β → Prop} {f : α → β} {a : List α} (h : ∀ x ∈ a, P (f x)) : ∀ y ∈ a.map f, P y := fun y hy => by
  obtain ⟨x, hx, rfl⟩ := List.mem_map.mp hy
  exact h x hx
theorem cut_sub {as : List Str} {lo hi : Option Int} {y : Str} (h : y ∈ cutS as lo hi) : y ∈ as := List.mem_of_mem_drop (List.mem_of_mem_take h)
theorem cF : ∀ j ∈ (["1", "-1/2", "1/61", "3/2", "1/0", "/2", "1/", "1/2/3", "01/2", "0.5", ""] : List Str), ((∀ c ∈ TL.tl j, 33 ≤ c) ∧ j.length ≤ 100) ∧ markB (fracW (TL.tl j)) = false ∧ dripB (fracW (TL.tl j)) = false := by decide +kernel
theorem cN : ∀ j ∈ (["0", "1000001", "01", "-1", "+1", "1/2", "", "x", Txt.mul "9" 50] : List Str), ((∀ c ∈ TL.tl j, 33 ≤ c) ∧ j.length ≤ 100) ∧ numB 1 1000000 (numP j) = false := by decide +kernel
theorem cA : ∀ j ∈ (["abcdefghi", "", "A", "a1", "a-b"] : List Str), ((∀ c ∈ TL.tl j, 33 ≤ c) ∧ j.length ≤ 100) ∧ nameB (.s j) = false := by decide +kernel
theorem cH : ∀ j ∈ (["kettles", "Kettle", "", "mold", "juice"] : List Str), ((∀ c ∈ TL.tl j, 33 ≤ c) ∧ j.length ≤ 100) ∧ j ≠ "kettle" ∧ j ≠ "mould" := by decide +kernel
theorem cR : ∀ j ∈ (["10001", "00", "-1", "", "1/2"] : List Str), ((∀ c ∈ TL.tl j, 33 ≤ c) ∧ j.length ≤ 100) ∧ numB 0 10000 (numP j) = false := by decide +kernel
theorem cM : ∀ j ∈ (["2/4", "1/1", "0/1", "0"] : List Str), ((∀ c ∈ TL.tl j, 33 ≤ c) ∧ j.length ≤ 100) ∧ markB (fracW (TL.tl j)) = false := by decide +kernel
theorem cD : ∀ j ∈ (["2/4", "1/1", "0/1", "1/13", "12/13"] : List Str), ((∀ c ∈ TL.tl j, 33 ≤ c) ∧ j.length ≤ 100) ∧ dripB (fracW (TL.tl j)) = false := by decide +kernel
theorem wd_1 : Wd "1" := ⟨by decide +kernel, by decide +kernel⟩
theorem wd_5 : Wd "5" := ⟨by decide +kernel, by decide +kernel⟩
theorem wrong_k {st : StP} {n r f m : Str} {as : List Str} (hn : Wd n) (hr : Wd r) (hf : Wd f) (hm : Wd m) (ha : ∀ y ∈ as, Wd y ∧ y ∈ (st.1 ++ st.2).map nmO) : ∀ s ∈ wrongsL ["kettle", n, r, f, m] as ++ wrongsM ["kettle", n, r, f, m], Wr st s := by
  have w5 := wd_cons wd_kettle (wd4 hn hr hf hm)
  refine all_app (all_app (all_app (all_app (all_app (all_app (all_app (all_app ?_ ?_) ?_) ?_) ?_) ?_) ?_) ?_) ?_
  · refine all_cons ?_ (all_cons ?_ (all_cons ?_ (all_cons ?_ (all_cons ?_ nofun))))
    · exact wr_no (s := ["kettle", n, r, f, m, "1"]) (by show 6 ≤ 7; decide) (wd_cons wd_kettle (wd_cons hn (wd4 hr hf hm wd_1))) nofun rfl
    · exact wr_no (s := ["kettle", n, r, f]) (by show 4 ≤ 7; decide) (wd4 wd_kettle hn hr hf) nofun (thing4 (by decide +kernel))
    · exact (wr_k4 hn hr hf (m := "2/4") (cM _ (by decide +kernel)).1 (cM _ (by decide +kernel)).2 : Wr st ["kettle", n, r, f, "2/4"])
    · exact (wr_k4 hn hr hf (m := "1/1") (cM _ (by decide +kernel)).1 (cM _ (by decide +kernel)).2 : Wr st ["kettle", n, r, f, "1/1"])
    · exact (wr_k4 hn hr hf (m := "0/1") (cM _ (by decide +kernel)).1 (cM _ (by decide +kernel)).2 : Wr st ["kettle", n, r, f, "0/1"])
  · exact all_map fun j hj => (wr_k4 hn hr hf (cF j hj).1 (cF j hj).2.1 : Wr st ["kettle", n, r, f, j])
  · exact all_map fun j hj => (wr_k2 hn (cN j hj).1 hf hm (cN j hj).2 : Wr st ["kettle", n, j, f, m])
  · exact all_map fun j hj => (wr_k1 (cA j hj).1 hr hf hm (cA j hj).2 : Wr st ["kettle", j, r, f, m])
  · exact all_map fun j hj => (wr_no (by show 5 ≤ 7; decide) (wd_cons (cH j hj).1 (wd4 hn hr hf hm)) nofun (thing5 (cH j hj).2.1) : Wr st [j, n, r, f, m])
  · refine all_cons ?_ (all_cons ?_ nofun)
    · exact wr_no (s := ["", "kettle", n, r, f, m]) (by show 6 ≤ 7; decide) (wd_cons wd_none w5) nofun rfl
    · exact wr_no (s := ["kettle", n, r, f, m, ""]) (by show 6 ≤ 7; decide) (wd_cons wd_kettle (wd_cons hn (wd4 hr hf hm wd_none))) nofun rfl
  · refine all_cons ?_ (all_cons wr_nil nofun)
    exact wr_no (s := ["kettle", "", n, r, f, m]) (by show 6 ≤ 7; decide) (wd_cons wd_kettle (wd_cons wd_none (wd4 hn hr hf hm))) nofun rfl
  · exact all_map fun y hy => (wr_k (ha y (cut_sub hy)).1 hr hf hm (.inr (ha y (cut_sub hy)).2) : Wr st ["kettle", y, r, f, m])
  · rw [show wrongsM ["kettle", n, r, f, m] = _ from if_pos rfl]
    refine all_app (all_map fun j hj => (wr_k3 hn hr (cR j hj).1 hm (cR j hj).2 : Wr st ["kettle", n, r, j, m])) (all_cons ?_ nofun)
    exact (wr_k4 hn hr hf (m := "0") (cM _ (by decide +kernel)).1 (cM _ (by decide +kernel)).2 : Wr st ["kettle", n, r, f, "0"])
theorem wrong_m {st : StP} {n r m : Str} {as : List Str} (hn : Wd n) (hr : Wd r) (hm : Wd m) (ha : ∀ y ∈ as, Wd y ∧ y ∈ (st.1 ++ st.2).map nmO) : ∀ s ∈ wrongsL ["mould", n, r, m] as ++ wrongsM ["mould", n, r, m], Wr st s := by
  have w4 := wd4 wd_mould hn hr hm
  have nk : ¬ ("mould" : Str) = "kettle" := by decide +kernel
  have z5 : ∀ a b c d : Str, thingP ["mould", a, b, c, d] = [] := fun a b c d => thing5 nk
  refine all_app (all_app (all_app (all_app (all_app (all_app (all_app (all_app ?_ ?_) ?_) ?_) ?_) ?_) ?_) ?_) ?_
  · refine all_cons ?_ (all_cons ?_ (all_cons ?_ (all_cons ?_ (all_cons ?_ nofun))))
    · exact wr_no (s := ["mould", n, r, m, "1"]) (by show 5 ≤ 7; decide) (wd_cons wd_mould (wd4 hn hr hm wd_1)) nofun (z5 _ _ _ _)
    · exact wr_no (s := ["mould", n, r]) (by show 3 ≤ 7; decide) (wd_cons wd_mould (wd_cons hn (wd_cons hr nofun))) nofun rfl
    · exact (wr_m4 hn hr (m := "2/4") (cD _ (by decide +kernel)).1 (cD _ (by decide +kernel)).2 : Wr st ["mould", n, r, "2/4"])
    · exact (wr_m4 hn hr (m := "1/1") (cD _ (by decide +kernel)).1 (cD _ (by decide +kernel)).2 : Wr st ["mould", n, r, "1/1"])
    · exact (wr_m4 hn hr (m := "0/1") (cD _ (by decide +kernel)).1 (cD _ (by decide +kernel)).2 : Wr st ["mould", n, r, "0/1"])
  · exact all_map fun j hj => (wr_m4 hn hr (cF j hj).1 (cF j hj).2.2 : Wr st ["mould", n, r, j])
  · exact all_map fun j hj => (wr_m2 hn (cN j hj).1 hm (cN j hj).2 : Wr st ["mould", n, j, m])
  · exact all_map fun j hj => (wr_m1 (cA j hj).1 hr hm (cA j hj).2 : Wr st ["mould", j, r, m])
  · exact all_map fun j hj => (wr_no (by show 4 ≤ 7; decide) (wd4 (cH j hj).1 hn hr hm) nofun (thing4 (cH j hj).2.2) : Wr st [j, n, r, m])
  · refine all_cons ?_ (all_cons ?_ nofun)
    · exact wr_no (s := ["", "mould", n, r, m]) (by show 5 ≤ 7; decide) (wd_cons wd_none w4) nofun (thing5 (by decide +kernel))
    · exact wr_no (s := ["mould", n, r, m, ""]) (by show 5 ≤ 7; decide) (wd_cons wd_mould (wd4 hn hr hm wd_none)) nofun (z5 _ _ _ _)
  · refine all_cons ?_ (all_cons wr_nil nofun)
    exact wr_no (s := ["mould", "", n, r, m]) (by show 5 ≤ 7; decide) (wd_cons wd_mould (wd4 wd_none hn hr hm)) nofun (z5 _ _ _ _)
  · exact all_map fun y hy => (wr_m (ha y (cut_sub hy)).1 hr hm (.inr (ha y (cut_sub hy)).2) : Wr st ["mould", y, r, m])
  · rw [show wrongsM ["mould", n, r, m] = _ from if_neg (fun z => nk (Option.some.inj z))]
    refine all_cons ?_ (all_cons ?_ (all_cons ?_ nofun))
    · exact (wr_m4 hn hr (m := "1/13") (cD _ (by decide +kernel)).1 (cD _ (by decide +kernel)).2 : Wr st ["mould", n, r, "1/13"])
    · exact (wr_m4 hn hr (m := "12/13") (cD _ (by decide +kernel)).1 (cD _ (by decide +kernel)).2 : Wr st ["mould", n, r, "12/13"])
    · exact wr_no (s := ["mould", n, "5", r, m]) (by show 5 ≤ 7; decide) (wd_cons wd_mould (wd4 hn wd_5 hr hm)) nofun (z5 _ _ _ _)
/-! ### the rows as texts -/
theorem num_P {n : Nat} (h : n < 10 ^ 7) : numP (S (TL.numL n)) = .i (n : Int) := by
  unfold numP
  rw [tl_S, numN_iff.mpr ⟨rfl, h⟩]
theorem frac_P {t b : Int} (b0 : 0 < b) (g : Nat.gcd t.natAbs b.natAbs = 1) (ht : t.natAbs < 10 ^ 40) (hb : b.natAbs < 10 ^ 40) : fracW (TL.tl (S (fracL t b))) = .f t b := fracW_iff.mpr ⟨⟨b0, g⟩, ht, hb, tl_S _⟩
theorem kd_words {x : Str} {d : PyData} (h : KetD x d) : ∃ r f m : Str, wordsD d = [("kettle" : Str), x, r, f, m] ∧ Wd x ∧ Wd r ∧ Wd f ∧ Wd m ∧ kettleB (thingP (wordsD d)) = true ∧ nmO (thingP (wordsD d)) = x := by
  obtain ⟨r, f, t, b, k, rfl⟩ := h
  have := k.r0; have := k.r1; have := k.f0; have := k.f1; have := k.t0; have := k.tb; have := k.b1
  have big : (10 : Nat) ^ 7 < 10 ^ 40 := by decide +kernel
  have r9 : r.natAbs < 10 ^ 7 := Nat.lt_of_le_of_lt (show r.natAbs ≤ 1000000 by omega) (by decide)
  have f9 : f.natAbs < 10 ^ 7 := Nat.lt_of_le_of_lt (show f.natAbs ≤ 10000 by omega) (by decide)
  have t9 : t.natAbs < 10 ^ 40 := Nat.lt_of_le_of_lt (show t.natAbs ≤ 60 by omega) (by decide +kernel)
  have b9 : b.natAbs < 10 ^ 40 := Nat.lt_of_le_of_lt (show b.natAbs ≤ 60 by omega) (by decide +kernel)
  have e : thingP (wordsD (.tuple [.str x, .int r, .int f, .tuple [.int t, .int b]])) = [.s x, .i r, .i f, .f t b] := by
    show thingP ["kettle", x, S (TL.numL r.natAbs), S (TL.numL f.natAbs), S (fracL t b)] = _
    rw [thingP_k, num_P r9, num_P f9, frac_P (by omega) k.cop t9 b9, show (r.natAbs : Int) = r by omega, show (f.natAbs : Int) = f by omega]
  refine ⟨_, _, _, rfl, wd_nm k.nm, wd_num (Nat.lt_trans r9 big), wd_num (Nat.lt_trans f9 big), wd_frac t9 b9, ?_, by rw [e] <;> rfl⟩
  rw [e]
  show (nameB (.s x) && (decide (1 ≤ r) && decide (r ≤ 1000000)) && (decide (0 ≤ f) && decide (f ≤ 10000)) && ((decide (0 < b) && decide (Nat.gcd t.natAbs b.natAbs = 1)) && (decide (0 < t) && decide (t < b) && decide (b ≤ 60)))) = true
  rw [nm_nameB k.nm, decide_eq_true k.r0, decide_eq_true k.r1, decide_eq_true k.f0, decide_eq_true k.f1, decide_eq_true (show 0 < b by omega), decide_eq_true k.cop, decide_eq_true k.t0, decide_eq_true k.tb, decide_eq_true k.b1] <;> rfl
theorem md_words {x : Str} {d : PyData} (h : MouD x d) : ∃ r m : Str, wordsD d = [("mould" : Str), x, r, m] ∧ Wd x ∧ Wd r ∧ Wd m ∧ mouldB (thingP (wordsD d)) = true ∧ nmO (thingP (wordsD d)) = x := by
  obtain ⟨r, t, b, k, rfl⟩ := h
  have := k.r0; have := k.r1; have := k.t0; have := k.tb; have := k.b1
  have big : (10 : Nat) ^ 7 < 10 ^ 40 := by decide +kernel
  have r9 : r.natAbs < 10 ^ 7 := Nat.lt_of_le_of_lt (show r.natAbs ≤ 1000000 by omega) (by decide)
  have t9 : t.natAbs < 10 ^ 40 := Nat.lt_of_le_of_lt (show t.natAbs ≤ 60 by omega) (by decide +kernel)
  have b9 : b.natAbs < 10 ^ 40 := Nat.lt_of_le_of_lt (show b.natAbs ≤ 60 by omega) (by decide +kernel)
  have e : thingP (wordsD (.tuple [.str x, .int r, .tuple [.int t, .int b]])) = [.s x, .i r, .f t b] := by
    show thingP ["mould", x, S (TL.numL r.natAbs), S (fracL t b)] = _
    rw [thingP_m, num_P r9, frac_P (by omega) k.cop t9 b9, show (r.natAbs : Int) = r by omega]
  refine ⟨_, _, rfl, wd_nm k.nm, wd_num (Nat.lt_trans r9 big), wd_frac t9 b9, ?_, by rw [e] <;> rfl⟩
  rw [e]
  show (nameB (.s x) && (decide (1 ≤ r) && decide (r ≤ 1000000)) && ((decide (0 < b) && decide (Nat.gcd t.natAbs b.natAbs = 1)) && (decide (0 ≤ t) && decide (t < b) && decide (b ≤ 12)))) = true
  rw [nm_nameB k.nm, decide_eq_true k.r0, decide_eq_true k.r1, decide_eq_true (show 0 < b by omega), decide_eq_true k.cop, decide_eq_true k.t0, decide_eq_true k.tb, decide_eq_true k.b1] <;> rfl
/-- what is known of a row's text -/
structure Rw (l : Str) (ps : List Pt) : Prop where
  lx : Lx l
  sp : ∃ ws, Txt.split l " " = ws ∧ thingP ws = ps ∧ ((∃ n r f m : Str, ws = [("kettle" : Str), n, r, f, m] ∧ Wd n ∧ Wd r ∧ Wd f ∧ Wd m) ∨ (∃ n r m : Str, ws = [("mould" : Str), n, r, m] ∧ Wd n ∧ Wd r ∧ Wd m))
theorem rw_ket {x : Str} {d : PyData} (h : KetD x d) : Rw (lineD d) (thingP (wordsD d)) := by
  obtain ⟨r, f, m, e, h1, h2, h3, h4, _, _⟩ := kd_words h
  have w5 := wd_cons wd_kettle (wd4 h1 h2 h3 h4)
  unfold lineD
  rw [e]
  exact ⟨lx_words w5 (by show 5 ≤ 7; decide), _, split_words w5 nofun, rfl, .inl ⟨x, r, f, m, rfl, h1, h2, h3, h4⟩⟩
theorem rw_mou {x : Str} {d : PyData} (h : MouD x d) : Rw (lineD d) (thingP (wordsD d)) := by
  obtain ⟨r, m, e, h1, h2, h3, _, _⟩ := md_words h
  have w4 := wd4 wd_mould h1 h2 h3
  unfold lineD
  rw [e]
  exact ⟨lx_words w4 (by show 4 ≤ 7; decide), _, split_words w4 nofun, rfl, .inr ⟨x, r, m, rfl, h1, h2, h3⟩⟩
theorem Rw.pt {l : Str} {ps : List Pt} (h : Rw l ps) : lineP l = ps := by
  obtain ⟨ws, e, e2, _⟩ := h.sp
  unfold lineP
  rw [e, e2]
theorem all_at {At : V → Str → PyData → Prop} {vs : List V} {ns : List Str} {ds : List PyData} (A : AllAt At vs ns ds) {i : Nat} {d : PyData} (hd : ds[i]? = some d) : ∃ v x, ns[i]? = some x ∧ At v x d := by
  have li := (List.getElem?_eq_some_iff.mp hd).1
  have := A.ln
  have := A.ld
  obtain ⟨v, hv⟩ : ∃ v, vs[i]? = some v := ⟨_, List.getElem?_eq_getElem (by omega)⟩
  obtain ⟨x, hx⟩ : ∃ x, ns[i]? = some x := ⟨_, List.getElem?_eq_getElem (by omega)⟩
  exact ⟨v, x, hx, A.at_ i v x d hv hx hd⟩
theorem names_of {At : V → Str → PyData → Prop} {vs : List V} {ns : List Str} {ds : List PyData} (A : AllAt At vs ns ds) (h : ∀ v x d, At v x d → nmO (thingP (wordsD d)) = x) : (ds.map fun d => thingP (wordsD d)).map nmO = ns := by
  apply List.ext_getElem?
  intro i
  rw [List.getElem?_map, List.getElem?_map]
  cases e : ds[i]? with
  | none =>
    have := A.ln
    have := A.ld
    have := List.getElem?_eq_none_iff.mp e
    exact (List.getElem?_eq_none_iff.mpr (by omega)).symm
  | some d =>
    obtain ⟨v, x, hx, hA⟩ := all_at A e
    rw [hx, ← h v x d hA] <;> rfl
theorem rows_gr {K : PySem.W.Frag} {H : Hp} {ks ms : List V} {ns nt : List Str} {ds es : List PyData} (AK : AllAt (KetAt K H) ks ns ds) (AM : AllAt (MouAt K H) ms nt es) (k8 : ks.length ≤ 8) (m40 : ms.length ≤ 40) (nd : (ns ++ nt).Nodup) :
    Gr (ds.map fun d => thingP (wordsD d)) (es.map fun d => thingP (wordsD d)) ∧ (ds.map fun d => thingP (wordsD d)).map nmO = ns ∧ (es.map fun d => thingP (wordsD d)).map nmO = nt ∧ ((ds ++ es).map lineD).map lineP = (ds.map fun d => thingP (wordsD d)) ++ (es.map fun d => thingP (wordsD d)) ∧ (∀ l ∈ (ds ++ es).map lineD, ∃ ps, Rw l ps) := by
  have nk := names_of AK fun v x d h => (kd_words h.d).elim fun _ h => h.elim fun _ h => h.elim fun _ h => h.2.2.2.2.2.2
  have nm := names_of AM fun v x d h => (md_words h.d).elim fun _ h => h.elim fun _ h => h.2.2.2.2.2
  have inK : ∀ d ∈ ds, ∃ x, KetD x d := fun d hd => by
    obtain ⟨i, hi⟩ := List.getElem?_of_mem hd
    obtain ⟨v, x, _, h⟩ := all_at AK hi
    exact ⟨x, h.d⟩
  have inM : ∀ d ∈ es, ∃ x, MouD x d := fun d hd => by
    obtain ⟨i, hi⟩ := List.getElem?_of_mem hd
    obtain ⟨v, x, _, h⟩ := all_at AM hi
    exact ⟨x, h.d⟩
  have a1 := AK.ld
  have a2 := AM.ld
  refine ⟨⟨all_map fun d hd => ?_, all_map fun d hd => ?_, by rw [List.length_map]; omega, by rw [List.length_map]; omega, by rw [List.map_append, nk, nm]; exact nd⟩, nk, nm, ?_, all_map fun d hd => ?_⟩
  · obtain ⟨x, h⟩ := inK d hd
    obtain ⟨_, _, _, _, _, _, _, _, h, _⟩ := kd_words h
    exact h
  · obtain ⟨x, h⟩ := inM d hd
    obtain ⟨_, _, _, _, _, _, h, _⟩ := md_words h
    exact h
  · rw [List.map_map, List.map_append]
    refine congr (congrArg _ (List.map_congr_left fun d hd => ?_)) (List.map_congr_left fun d hd => ?_)
    · obtain ⟨x, h⟩ := inK d hd
      exact (rw_ket h).pt
    · obtain ⟨x, h⟩ := inM d hd
      exact (rw_mou h).pt
  · rcases List.mem_append.mp hd with h | h
    · obtain ⟨x, h⟩ := inK d h
      exact ⟨_, rw_ket h⟩
    · obtain ⟨x, h⟩ := inM d h
      exact ⟨_, rw_mou h⟩
/-! ### the rows written by hand -/
def moreL : List Str := ("abcdefghi" : Str).cps.toList.map fun c => ("kettle q" : Str) ++ S [c] ++ (" 5 0 1/2" : Str)
def formsL : List Str := List.zipWith (fun a b => ("mould q" : Str) ++ S [a] ++ S [b] ++ (" 5 0" : Str)) (Txt.mul "abcdefg" (6 : Int)).cps.toList (Txt.mul "abcdef" (7 : Int)).cps.toList
theorem more_len : moreL.length = 9 := by decide +kernel
theorem forms_len : formsL.length = 42 := by decide +kernel
theorem more_ok : ∀ l ∈ moreL, kettleB (lineP l) = true ∧ ((∀ c ∈ TL.tl l, 32 ≤ c) ∧ l.length ≤ 707) := by decide +kernel
theorem forms_ok : ∀ l ∈ formsL, mouldB (lineP l) = true ∧ ((∀ c ∈ TL.tl l, 32 ≤ c) ∧ l.length ≤ 707) := by decide +kernel
theorem hand_nd : ((moreL ++ formsL).map fun l => nmO (lineP l)).Nodup := by decide +kernel
theorem form_q : ∀ l ∈ formsL, 113 ∈ TL.tl (nmO (lineP l)) := by decide +kernel
theorem cut_takeS (w : List Str) (k : Nat) : cutS w none (some (k : Int)) = w.take k := by
  unfold cutS
  rw [HT.sIx_none, HT.sIx_nat, List.drop_zero, Nat.sub_zero]
  rcases Nat.le_total k w.length with h | h
  · rw [Nat.min_eq_left h]
  · rw [Nat.min_eq_right h, List.take_length, List.take_of_length_le h]
def handA : List (List Str × Int) := [([], 0), (moreL, 8), (cutS moreL none (some 8) ++ cutS formsL none (some 41), 48), (cutS formsL none (some 3), 3), (formsL, 40), (cutS formsL none (some 40) ++ cutS moreL none (some 1), 40)]
def handB (rows : List Str) (h : Int) : List (List Str × Int) := [(cutS rows none (some h) ++ cutS formsL none (some 1) ++ cutS moreL none (some 1), h + 1), (([""] : List Str), 0), (cutS rows none (some h) ++ ([""] : List Str), h)]
def handC (rows : List Str) : List Str × Int := (cutS moreL none (some 8) ++ cutS formsL none (some 40) ++ cutS rows none (some 1), 48)
/-- a text whose fault is at this row -/
def Hd (z : List Str × Int) : Prop := ∃ n : Nat, z.2 = n ∧ z.1.length ≤ 50 ∧ (∀ y ∈ z.1, Lx y) ∧ readP (Txt.join "\n" z.1) = .inl n
def isL (n : Nat) : Nat ⊕ StP → Bool
  | .inl m => m == n
  | .inr _ => false
theorem isL_eq {n : Nat} {x : Nat ⊕ StP} (h : isL n x = true) : x = .inl n := by
  cases x with
  | inl m => rw [show m = n from beq_iff_eq.mp h]
  | inr st => cases h
theorem hd_closed {w : List Str} {n : Nat} (ne : w ≠ []) (l : w.length ≤ 50) (lx : ∀ y ∈ w, ((∀ c ∈ TL.tl y, 32 ≤ c) ∧ y.length ≤ 707)) (h : isL n (goP 0 ([], []) (w.map lineP)) = true) : Hd (w, (n : Int)) :=
  ⟨n, rfl, l, lx, by rw [read_lx lx ne]; exact isL_eq h⟩
theorem ln_less {w : List Str} (h : w.length = 0 → False) : w ≠ [] := fun e => h (by rw [e] <;> rfl)
theorem take_two {A B : List Str} {n : Nat} (h : A.length = n) : (A ++ B).take n = A.take n := by rw [List.take_left' h, List.take_of_length_le (by omega)]
theorem handA_ok : ∀ z ∈ handA, Hd z := by
  refine all_cons ⟨0, rfl, by decide, nofun, ?_⟩ (all_cons ?_ (all_cons ?_ (all_cons ?_ (all_cons ?_ (all_cons ?_ nofun)))))
  · have e : Txt.split (Txt.join "\n" []) "\n" = [("" : Str)] := by decide +kernel
    have e2 : lineP "" = [] := by decide +kernel
    unfold readP
    rw [e, List.map_cons, e2]
    exact goP_none (step_bad rfl rfl)
  · exact hd_closed (n := 8) (ln_less (by decide +kernel)) (by decide +kernel) (by decide +kernel) (by decide +kernel)
  · exact hd_closed (n := 48) (ln_less (by decide +kernel)) (by decide +kernel) (by decide +kernel) (by decide +kernel)
  · exact hd_closed (n := 3) (ln_less (by decide +kernel)) (by decide +kernel) (by decide +kernel) (by decide +kernel)
  · exact hd_closed (n := 40) (ln_less (by decide +kernel)) (by decide +kernel) (by decide +kernel) (by decide +kernel)
  · exact hd_closed (n := 40) (ln_less (by decide +kernel)) (by decide +kernel) (by decide +kernel) (by decide +kernel)
theorem gr_sub {pk pm pk' pm' : List (List Pt)} (G : Gr pk pm) (a : pk'.Sublist pk) (b : pm'.Sublist pm) : Gr pk' pm' := ⟨fun ps h => G.k ps (a.subset h), fun ps h => G.m ps (b.subset h), Nat.le_trans a.length_le G.k8, Nat.le_trans b.length_le G.m40, G.nd.sublist ((a.append b).map nmO)⟩
theorem g_hand : Gr ((moreL.take 8).map lineP) ((formsL.take 40).map lineP) := by
  refine ⟨all_map fun l hl => (more_ok l (List.mem_of_mem_take hl)).1, all_map fun l hl => (forms_ok l (List.mem_of_mem_take hl)).1, ?_, ?_, ?_⟩
  · rw [List.length_map, List.length_take]
    omega
  · rw [List.length_map, List.length_take]
    omega
  · rw [← List.map_append, List.map_map]
    exact hand_nd.sublist (List.Sublist.map _ (List.Sublist.append (List.take_sublist _ _) (List.take_sublist _ _)))
theorem hand_rest {rows : List Str} {pk pm : List (List Pt)} (G : Gr pk pm) (e : rows.map lineP = pk ++ pm) (lx : ∀ y ∈ rows, Lx y) (k1 : 1 ≤ pk.length) (q : ∀ n ∈ pk.map nmO, 113 ∉ TL.tl n) : (∀ z ∈ handB rows pk.length, Hd z) ∧ Hd (handC rows) := by
  have er : (rows.take pk.length).map lineP = pk := by rw [List.map_take, e, List.take_left]
  have lr : (rows.take pk.length).length = pk.length := by rw [← List.length_map (f := lineP), er]
  have lxr : ∀ y ∈ rows.take pk.length, Lx y := fun y hy => lx y (List.mem_of_mem_take hy)
  have k8 := G.k8
  have f0 : (formsL.take 1).length = 1 := by decide +kernel
  have m0 : (moreL.take 1).length = 1 := by decide +kernel
  have lxf : ∀ n, ∀ y ∈ formsL.take n, Lx y := fun n y hy => (forms_ok y (List.mem_of_mem_take hy)).2
  have lxm : ∀ n, ∀ y ∈ moreL.take n, Lx y := fun n y hy => (more_ok y (List.mem_of_mem_take hy)).2
  obtain ⟨r0, rr, er0⟩ : ∃ r0 rr, rows = r0 :: rr := by
    cases h : rows with
    | nil =>
      rw [h] at e
      have := congrArg List.length e
      rw [List.length_append] at this
      simp at this
      omega
    | cons a b => exact ⟨a, b, rfl⟩
  have kr0 : kettleB (lineP r0) = true := by
    apply G.k
    rw [er0] at e
    cases h : pk with
    | nil => rw [h] at k1; exact absurd k1 (by decide)
    | cons a b =>
      rw [h] at e
      have : lineP r0 = a := (List.cons.inj e).1
      rw [this]
      exact List.mem_cons_self
  obtain ⟨mo, hmo⟩ : ∃ x, (moreL.take 1)[0]? = some x := ⟨_, List.getElem?_eq_getElem (by rw [m0]; decide)⟩
  have kmo := (more_ok mo (List.mem_of_mem_take (List.mem_of_getElem? hmo))).1
  refine ⟨all_cons ?_ (all_cons ?_ (all_cons ?_ nofun)), ?_⟩
  · rw [cut_takeS rows, show cutS formsL none (some 1) = formsL.take 1 from cut_takeS _ 1, show cutS moreL none (some 1) = moreL.take 1 from cut_takeS _ 1]
    have lL : (rows.take pk.length ++ formsL.take 1).length = pk.length + 1 := by rw [List.length_append, lr, f0]
    have G7 : Gr pk ((formsL.take 1).map lineP) := by
      refine ⟨G.k, all_map fun l hl => (forms_ok l (List.mem_of_mem_take hl)).1, k8, by rw [List.length_map, f0]; decide, ?_⟩
      rw [List.map_append]
      refine List.nodup_append.mpr ⟨(G.nd.sublist (List.Sublist.map nmO (List.sublist_append_left _ _))), ?_, fun a ha b hb z => ?_⟩
      · have := (gr_sub g_hand (List.nil_sublist _) (List.Sublist.map lineP (List.take_sublist_take_left (show 1 ≤ 40 by decide) : (formsL.take 1).Sublist (formsL.take 40)))).nd
        exact this
      · rw [List.map_map] at hb
        obtain ⟨l, hl, rfl⟩ := List.mem_map.mp hb
        have fq := form_q l (List.mem_of_mem_take hl)
        exact q a ha (by rw [z]; exact fq)
    refine ⟨pk.length + 1, rfl, by show (_ ++ _ : List Str).length ≤ 50; rw [List.length_append, lL, m0]; omega, all_app (all_app lxr (lxf 1)) (lxm 1), ?_⟩
    refine read_at (L := rows.take pk.length ++ formsL.take 1) (k := pk.length + 1) (w := mo) G7 (by rw [List.map_append, er]) ?_ ?_ (by rw [lL]; exact Nat.le_refl _) (all_app (all_app lxr (lxf 1)) (lxm 1)) (step_late kmo (.inl ?_))
    · rw [List.getElem?_append_right (by rw [lL]; exact Nat.le_refl _), lL, Nat.sub_self]
      exact hmo
    · exact take_two lL
    · show ((formsL.take 1).map lineP).take (pk.length + 1 - pk.length) ≠ []
      rw [Nat.add_sub_cancel_left]
      exact fun z => by
        have := congrArg List.length z
        rw [List.length_take, List.length_map, f0] at this
        exact absurd this (by decide)
  · exact hd_closed (n := 0) (ln_less (by decide +kernel)) (by decide +kernel) (by decide +kernel) (by decide +kernel)
  · rw [cut_takeS rows]
    have lxe : ∀ y ∈ ([""] : List Str), Lx y := all_cons ⟨by decide +kernel, by decide +kernel⟩ nofun
    refine ⟨pk.length, rfl, by show (_ ++ _ : List Str).length ≤ 50; rw [List.length_append, lr]; show _ + 1 ≤ 50; omega, all_app lxr lxe, ?_⟩
    have e2 : lineP "" = [] := by decide +kernel
    refine read_at (L := rows.take pk.length) (pk := pk) (pm := []) (k := pk.length) (w := "") (gr_sub G (List.Sublist.refl _) (List.nil_sublist _)) (by rw [er, List.append_nil]) ?_ ?_ (by rw [lr]; exact Nat.le_refl _) (all_app lxr lxe) (by rw [e2]; exact step_bad rfl rfl)
    · rw [List.getElem?_append_right (by rw [lr]; exact Nat.le_refl _), lr, Nat.sub_self] <;> rfl
    · exact take_two lr
  · unfold handC
    rw [show cutS moreL none (some 8) = moreL.take 8 from cut_takeS _ 8, show cutS formsL none (some 40) = formsL.take 40 from cut_takeS _ 40, show cutS rows none (some 1) = rows.take 1 from cut_takeS _ 1]
    have l8 : (moreL.take 8).length = 8 := by decide +kernel
    have l40 : (formsL.take 40).length = 40 := by decide +kernel
    have lL : (moreL.take 8 ++ formsL.take 40).length = 48 := by rw [List.length_append, l8, l40]
    have t1 : rows.take 1 = [r0] := by rw [er0] <;> rfl
    have lx1 : ∀ y ∈ rows.take 1, Lx y := fun y hy => lx y (List.mem_of_mem_take hy)
    refine ⟨48, rfl, by show (_ ++ _ : List Str).length ≤ 50; rw [List.length_append, lL, t1]; show 48 + 1 ≤ 50; decide, all_app (all_app (lxm 8) (lxf 40)) lx1, ?_⟩
    refine read_at (L := moreL.take 8 ++ formsL.take 40) (k := 48) (w := r0) g_hand (by rw [List.map_append]) ?_ ?_ (by rw [lL]; exact Nat.le_refl _) (all_app (all_app (lxm 8) (lxf 40)) lx1) (step_late kr0 (.inl ?_))
    · rw [List.getElem?_append_right (by rw [lL]; exact Nat.le_refl _), lL, t1] <;> rfl
    · exact take_two lL
    · show ((formsL.take 40).map lineP).take (48 - ((moreL.take 8).map lineP).length) ≠ []
      rw [List.length_map, l8]
      exact fun z => by
        have := congrArg List.length z
        rw [List.length_take, List.length_map, l40] at this
        exact absurd this (by decide)
/-! ### lists of texts with the number of the row at fault -/
inductive PL (H : Hp) : List V → List (List Str × Int) → Prop
  | nil : PL H [] []
  | cons {t p : Addr} {w : List Str} {d : Int} {xs : List V} {ps : List (List Str × Int)} (h : H t = some (.tup [.ref p, .int d])) (h2 : H p = some (.lst (w.map V.str))) (r : PL H xs ps) : PL H (.ref t :: xs) ((w, d) :: ps)
theorem PL.same {H H' : Hp} (s : Same H H') : ∀ {xs : List V} {ps : List (List Str × Int)}, PL H xs ps → PL H' xs ps
  | _, _, .nil => .nil
  | _, _, .cons h h2 t => .cons (s _ _ h) (s _ _ h2) (t.same s)
theorem PL.sm {H H' : Hp} (s : Sm H H') : ∀ {xs : List V} {ps : List (List Str × Int)}, PL H xs ps → PL H' xs ps
  | _, _, .nil => .nil
  | _, _, .cons h h2 t => .cons (s.keep _ _ h nofun) (s.lst h2) (t.sm s)
theorem PL.over {H0 H : Hp} {D : Addr} {o : HO} (n : H0 D = none) (s : Same H0 H) : ∀ {xs : List V} {ps : List (List Str × Int)}, PL H0 xs ps → PL (upd H D o) xs ps
  | _, _, .nil => .nil
  | _, _, .cons h h2 t => .cons (by rw [upd_ne (ne_of_none h n)]; exact s _ _ h) (by rw [upd_ne (ne_of_none h2 n)]; exact s _ _ h2) (t.over n s)
theorem PL.app {H : Hp} : ∀ {xs ys : List V} {a b : List (List Str × Int)}, PL H xs a → PL H ys b → PL H (xs ++ ys) (a ++ b)
  | _, _, _, _, .nil, t => t
  | _, _, _, _, .cons h h2 t, t' => .cons h h2 (t.app t')
theorem PL.len {H : Hp} : ∀ {xs : List V} {a : List (List Str × Int)}, PL H xs a → xs.length = a.length
  | _, _, .nil => rfl
  | _, _, .cons _ _ t => by rw [List.length_cons, List.length_cons, t.len]
theorem PL.get {H : Hp} : ∀ {xs : List V} {a : List (List Str × Int)} {i : Nat} {z : List Str × Int} {x : V}, PL H xs a → a[i]? = some z → xs[i]? = some x → ∃ t p, x = .ref t ∧ H t = some (.tup [.ref p, .int z.2]) ∧ H p = some (.lst (z.1.map V.str))
  | _, _, _, _, _, .nil, e, _ => by simp at e
  | _, _, 0, _, _, .cons h h2 t, e, e2 => by
    cases e
    cases e2
    exact ⟨_, _, rfl, h, h2⟩
  | _, _, i + 1, _, _, .cons h h2 t, e, e2 => t.get (i := i) (by simpa using e) (by simpa using e2)
section
variable {Pv : L2.St → Prop} {Ph : Hp → Prop} {F : Addr → Prop}
def Ez (F : Addr → Prop) (Pv : L2.St → Prop) (Ph : Hp → Prop) (te : TE) (w : List Str) : Prop := ∀ σ H Q, Pv σ → Ph H → (∀ p H', Same H H' → (H p = none ∨ F p) → H' p = some (.lst (w.map V.str)) → Q (.ref p) H') → te σ H Q
theorem e0_var {i : Nat} {l : Addr} {w : List Str} (hv : ∀ σ, Pv σ → σ[i]? = some (some (.ref l))) (hh : ∀ H, Ph H → H l = some (.lst (w.map V.str))) (hF : F l) : Ez F Pv Ph (tVar i) w := fun σ H Q pv ph q => ⟨_, hv σ pv, q l H (.refl _) (.inr hF) (hh H ph)⟩
theorem e0_nil : Ez F Pv Ph (tLstI tNil) [] := fun σ H Q _ _ q => ⟨rfl, fun p H1 s1 n1 h1 => q p H1 s1 (.inl n1) h1⟩
theorem e0_one {s : Str} : Ez F Pv Ph (tLstI (tCons (tC (.str s)) tNil)) [s] := fun σ H Q _ _ q => ⟨rfl, fun p H1 s1 n1 h1 => q p H1 s1 (.inl n1) h1⟩
theorem e0_cut {K : PySem.W.Frag} {i : Nat} {l : Addr} {w : List Str} {tl th : TO} {lo hi : Option Int} (hv : ∀ σ, Pv σ → σ[i]? = some (some (.ref l))) (hh : ∀ H, Ph H → H l = some (.lst (w.map V.str))) (hl : ∀ σ H Q, Pv σ → Q lo H → tl σ H Q) (hu : ∀ σ H Q, Pv σ → Q hi H → th σ H Q) : Ez F Pv Ph (tSl (rSlLI K) (tVar i) tl th) (cutS w lo hi) := fun σ H Q pv ph q =>
  ⟨_, hv σ pv, hl _ _ _ pv (hu _ _ _ pv ⟨l, _, rfl, SqL.of (hh H ph), fun p H1 s1 n1 h1 => q p H1 s1 (.inl n1) (by rw [← cut_map]; exact h1)⟩)⟩
theorem e0_cat {ta tb : TE} {a b : List Str} (S : Stb Ph) (h : Ez F Pv Ph ta a) (g : Ez F Pv Ph tb b) (n : a.length + b.length ≤ 1000) : Ez F Pv Ph (tOp rCatI ta tb) (a ++ b) := fun σ H Q pv ph q =>
  h σ H _ pv ph fun p1 H1 s1 _ h1 => g σ H1 _ pv (S _ _ s1 ph) fun p2 H2 s2 _ h2 =>
    ⟨p1, p2, _, _, rfl, rfl, s2 _ _ h1, h2, by rw [List.length_map, List.length_map, sizeLine_eq]; omega, fun p H3 s3 n3 h3 => q p H3 (s1.trans (s2.trans s3)) (.inl (none_of (s1.trans s2) n3)) (by rw [List.map_append]; exact h3)⟩
def Ep (F : Addr → Prop) (Pv : L2.St → Prop) (Ph : Hp → Prop) (te : TE) (z : List Str × Int) : Prop := ∀ σ H Q, Pv σ → Ph H → (∀ t p H', Same H H' → (H p = none ∨ F p) → H t = none → H' t = some (.tup [.ref p, .int z.2]) → H' p = some (.lst (z.1.map V.str)) → Q (.ref t) H') → te σ H Q
theorem ep_of {te td : TE} {w : List Str} {d : Int} (e : Ez F Pv Ph te w) (hd : ∀ σ H Q, Pv σ → Q (.int d) H → td σ H Q) : Ep F Pv Ph (tTupI (tCons te (tCons td tNil))) (w, d) := fun σ H Q pv ph q =>
  e σ H _ pv ph fun p H1 s1 fr h1 => hd _ _ _ pv ⟨rfl, fun t H2 s2 n2 h2 => q t p H2 (s1.trans s2) fr (none_of s1 n2) h2 (s2 _ _ h1)⟩
def EpA (Pv : L2.St → Prop) (Ph : Hp → Prop) (t : TA) (ps : List (List Str × Int)) : Prop := ∀ σ H Q, Pv σ → Ph H → (∀ xs H', Same H H' → PL H' xs ps → Q xs H') → t σ H Q
theorem epa_nil : EpA Pv Ph tNil [] := fun σ H Q _ _ q => q [] H (.refl _) .nil
theorem epa_cons {te : TE} {t : TA} {z : List Str × Int} {ps : List (List Str × Int)} (S : Stb Ph) (e : Ep F Pv Ph te z) (a : EpA Pv Ph t ps) : EpA Pv Ph (tCons te t) (z :: ps) := fun σ H Q pv ph q =>
  e σ H _ pv ph fun t p H1 s1 _ _ h1 h2 => a σ H1 _ pv (S _ _ s1 ph) fun xs H2 s2 W => q (.ref t :: xs) H2 (s1.trans s2) (.cons (s2 _ _ h1) (s2 _ _ h2) W)
/-- a new list of such pairs; the heap before it -/
def Epl (Pv : L2.St → Prop) (Ph : Hp → Prop) (te : TE) (ps : List (List Str × Int)) : Prop := ∀ σ H Q, Pv σ → Ph H → (∀ p xs H1 H', Same H H1 → PL H1 xs ps → H1 p = none → Same H1 H' → H' p = some (.lst xs) → Q (.ref p) H') → te σ H Q
theorem epl_lst {t : TA} {ps : List (List Str × Int)} (a : EpA Pv Ph t ps) (n : ps.length ≤ 100000) : Epl Pv Ph (tLstI t) ps := fun σ H Q pv ph q =>
  a σ H _ pv ph fun xs H1 s1 W => ⟨by rw [W.len]; exact Nat.ble_eq_true_of_le n, fun p H2 s2 n2 h2 => q p xs H1 H2 s1 W n2 s2 h2⟩
theorem epl_catv {i : Nat} {l : Addr} {xs : List V} {tb : TE} {a b : List (List Str × Int)} (hv : ∀ σ, Pv σ → σ[i]? = some (some (.ref l))) (hh : ∀ H, Ph H → H l = some (.lst xs) ∧ PL H xs a) (g : Epl Pv Ph tb b) (n : a.length + b.length ≤ 1000) : Epl Pv Ph (tOp rCatI (tVar i) tb) (a ++ b) := fun σ H Q pv ph q =>
  ⟨_, hv σ pv, g σ H _ pv ph fun p2 ys H2 H3 s2 W2 n2 s3 h3 =>
    have hl := s3 _ _ (s2 _ _ (hh H ph).1)
    have W1 := ((hh H ph).2.same s2).same s3
    ⟨l, p2, xs, ys, rfl, rfl, hl, h3, by rw [W1.len, W2.len, sizeLine_eq]; omega, fun p H4 s4 n4 h4 => q p _ H3 H4 (s2.trans s3) (W1.app (W2.same s3)) n4 s4 h4⟩⟩
theorem Epl.run {te : TE} {ps : List (List Str × Int)} (h : Epl Pv Ph te ps) {σ : L2.St} {H : Hp} {Q : VK} (pv : Pv σ) (ph : Ph H) (q : ∀ p xs H1 H', Same H H1 → PL H1 xs ps → H1 p = none → Same H1 H' → H' p = some (.lst xs) → Q (.ref p) H') : te σ H Q := h σ H Q pv ph q
theorem Ep.run {te : TE} {z : List Str × Int} (h : Ep F Pv Ph te z) {σ : L2.St} {H : Hp} {Q : VK} (pv : Pv σ) (ph : Ph H) (q : ∀ t p H', Same H H' → (H p = none ∨ F p) → H t = none → H' t = some (.tup [.ref p, .int z.2]) → H' p = some (.lst (z.1.map V.str)) → Q (.ref t) H') : te σ H Q := h σ H Q pv ph q
end
theorem cutS_le (w : List Str) (lo hi : Option Int) : (cutS w lo hi).length ≤ w.length := by
  unfold cutS
  rw [List.length_take, List.length_drop]
  omega
theorem len_app15 (x y : Str) : (x ++ y).length = x.length + y.length := by
  rw [TL.len_tl, show TL.tl (x ++ y) = TL.tl x ++ TL.tl y from TL.tl_append x y, List.length_append, ← TL.len_tl, ← TL.len_tl]
theorem stb4 {l2 l4 l6 l8 : Addr} {v2 v4 v6 x : List V} {ps : List (List Str × Int)} : Stb (fun H' : Hp => H' l2 = some (.lst v2) ∧ H' l4 = some (.lst v4) ∧ H' l6 = some (.lst v6) ∧ (H' l8 = some (.lst x) ∧ PL H' x ps)) := fun Ha Hb s ⟨a1, a2, a3, a4, a5⟩ => ⟨s _ _ a1, s _ _ a2, s _ _ a3, s _ _ a4, a5.same s⟩
theorem stb5 {l2 l4 l6 : Addr} {v2 v4 v6 : List V} : Stb (fun H' : Hp => H' l2 = some (.lst v2) ∧ H' l4 = some (.lst v4) ∧ H' l6 = some (.lst v6)) := fun Ha Hb s ⟨a1, a2, a3⟩ => ⟨s _ _ a1, s _ _ a2, s _ _ a3⟩
theorem seq_gn {i : Nat} {v : V} {te : TE} {g : TG} {t2 : TS} {D : Ends} {σ : L2.St} {H : Hp} (h : te (σ.set i (some v)) H fun x H' => g x (σ.set i (some v)) H' fun σ2 H2 => t2 D σ2 H2) : gName i v σ H (tSeq (tAsg te g) t2 D) := h
theorem sum_lx : ∀ {ys : List Str}, (∀ x ∈ ys, Lx x) → (ys.map (·.length)).sum ≤ 707 * ys.length
  | [], _ => Nat.zero_le _
  | y :: ys, h => by
    have h1 := (h y List.mem_cons_self).2
    have h2 := sum_lx fun x hx => h x (List.mem_cons_of_mem _ hx)
    rw [List.map_cons, List.sum_cons, List.length_cons]
    omega
def sp_l_by_hand (K : PySem.W.Frag) (Ps : List Addr) : Sp := fun vs H Q _ => ∃ (kl ml : Addr) (ks ms : List V) (ns nt : List Str) (ds es : List PyData), vs = [.ref kl, .ref ml] ∧ SqL K H kl ks ∧ AllAt (KetAt K H) ks ns ds ∧ SqL K H ml ms ∧ AllAt (MouAt K H) ms nt es ∧ 1 ≤ ks.length ∧ ks.length ≤ 3 ∧ ms.length ≤ 4 ∧ (ns ++ nt).Nodup ∧ (∀ x ∈ ns ++ nt, 113 ∉ TL.tl x) ∧ Tbs Ps H ∧ ∀ H', Sm H H' → Q (.bl true) H'
theorem ok_l_by_hand (T : All K mg) (B : Tabs T base) : FnOk P w K mg base CX0 12 T.f_l_by_hand T.fd_l_by_hand ["_law_kettles", "_law_moulds"] (sp_l_by_hand K T.Ps) := by
  refine T.d_l_by_hand.fn.ok sc_l_by_hand (fun vs H Q E h => ?_) (fun cdv A outer s H vs Q E hr h => ?_)
  · obtain ⟨kl, ml, ks, ms, ns, nt, ds, es, rfl, _⟩ := h
    rfl
  · obtain ⟨kl, ml, ks, ms, ns, nt, ds, es, rfl, hK, AK, hM, AM, k1, k3, m4, nd, noq, hT, q⟩ := h
    refine ⟨_, (pss_cons (ps_par (i := 2) (j := 3) (by rfl) sc_l_by_hand.nd rfl rfl (by decide) rfl rfl (pa_cons (pe_call (ok_l_rows T) (hr.mono (by decide)) (by rfl) T.d_l_rows.mg T.d_l_rows.fn.kp T.d_l_rows.b .nil pass0 (pa_cons (pv 0) (pa_cons (pv 1) pa_nil))) (pa_cons (pe_callB (lenQ (K := K) rfl) (by rfl) T.b_len PySem.boot_len (pa_cons (pv 0) pa_nil)) pa_nil)) (by rfl))
      (pss_cons (ps_setLc (i := 4) (own := [("_law_one", 5)]) (g := gName 5) (tt := tYes) (by rfl) sc_l_by_hand.nd rfl rfl (sw_true rfl rfl rfl (by decide +kernel)) (pi_str pe_str) (blkOk_by (own := [("_law_one", 5)]) (N := ["_law_kettles", "_law_moulds", "_law_rows_here", "_law_head", "_law_more", "_law_one", "_law_forms", "_law_other", "_law_texts", "_law_some", "_law_due"]) (sc := defScope s_l_by_hand) (by decide +kernel)) (fun _ _ _ _ _ => (pg_name (i := 5) sc_l_by_hand.nd rfl (by first | exact Or.inl rfl | exact Or.inr rfl))) (fun _ _ _ _ _ => pts_nil) (fun _ _ _ _ _ => (pe_op op_add_str (pe_op op_add_str pe_str (pv 5)) pe_str)))
      (pss_cons (ps_setLc (i := 6) (own := [("_law_one", 5), ("_law_other", 7)]) (g := gTup K 2 (gCons (gName 5) (gCons (gName 7) gNil))) (tt := tYes) (by rfl) sc_l_by_hand.nd rfl rfl (sw_true rfl rfl rfl (by decide +kernel)) (pi_zipS (by rfl) T.b_zip (pa_cons (pe_op op_mul_str pe_str pe_int) (pa_cons (pe_op op_mul_str pe_str pe_int) pa_nil))) (blkOk_by (own := [("_law_one", 5), ("_law_other", 7)]) (N := ["_law_kettles", "_law_moulds", "_law_rows_here", "_law_head", "_law_more", "_law_one", "_law_forms", "_law_other", "_law_texts", "_law_some", "_law_due"]) (sc := defScope s_l_by_hand) (by decide +kernel)) (fun _ _ _ _ _ => (pg_tupK (K := K) rfl rfl (pgs_cons (pg_name (i := 5) sc_l_by_hand.nd rfl (by first | exact Or.inl rfl | exact Or.inr rfl)) (pgs_cons (pg_name (i := 7) sc_l_by_hand.nd rfl (by first | exact Or.inl rfl | exact Or.inr rfl)) pgs_nil)))) (fun _ _ _ _ _ => pts_nil) (fun _ _ _ _ _ => (pe_op op_add_str (pe_op op_add_str (pe_op op_add_str pe_str (pv 5)) (pv 7)) pe_str)))
      (pss_cons (ps_set (i := 8) sc_l_by_hand.nd rfl (by first | exact Or.inl rfl | exact Or.inr rfl) (pe_lstI (pa_cons (pe_tupI (pa_cons (pe_lstI pa_nil) (pa_cons pe_int pa_nil))) (pa_cons (pe_tupI (pa_cons (pv 4) (pa_cons pe_int pa_nil))) (pa_cons (pe_tupI (pa_cons (pe_op op_catI (pe_slice (slL (K := K) rfl) (pv 4) po_none (po_some pe_int)) (pe_slice (slL (K := K) rfl) (pv 6) po_none (po_some pe_int))) (pa_cons pe_int pa_nil))) (pa_cons (pe_tupI (pa_cons (pe_slice (slL (K := K) rfl) (pv 6) po_none (po_some pe_int)) (pa_cons pe_int pa_nil))) (pa_cons (pe_tupI (pa_cons (pv 6) (pa_cons pe_int pa_nil))) (pa_cons (pe_tupI (pa_cons (pe_op op_catI (pe_slice (slL (K := K) rfl) (pv 6) po_none (po_some pe_int)) (pe_slice (slL (K := K) rfl) (pv 4) po_none (po_some pe_int))) (pa_cons pe_int pa_nil))) pa_nil))))))))
      (pss_cons (ps_set (i := 8) sc_l_by_hand.nd rfl (by first | exact Or.inl rfl | exact Or.inr rfl) (pe_op op_catI (pv 8) (pe_lstI (pa_cons (pe_tupI (pa_cons (pe_op op_catI (pe_op op_catI (pe_slice (slL (K := K) rfl) (pv 2) po_none (po_some (pv 3))) (pe_slice (slL (K := K) rfl) (pv 6) po_none (po_some pe_int))) (pe_slice (slL (K := K) rfl) (pv 4) po_none (po_some pe_int))) (pa_cons (pe_op op_add (pv 3) pe_int) pa_nil))) (pa_cons (pe_tupI (pa_cons (pe_lstI (pa_cons pe_str pa_nil)) (pa_cons pe_int pa_nil))) (pa_cons (pe_tupI (pa_cons (pe_op op_catI (pe_slice (slL (K := K) rfl) (pv 2) po_none (po_some (pv 3))) (pe_lstI (pa_cons pe_str pa_nil))) (pa_cons (pv 3) pa_nil))) pa_nil))))))
      (pss_cons (ps_expr (pe_bm PySem.F.plainAttrs_list PySem.F.slot_list_append PySem.F.type_list_append mt_append (pv 8) (pa_cons (pe_tupI (pa_cons (pe_op op_catI (pe_op op_catI (pe_slice (slL (K := K) rfl) (pv 4) po_none (po_some pe_int)) (pe_slice (slL (K := K) rfl) (pv 6) po_none (po_some pe_int))) (pe_slice (slL (K := K) rfl) (pv 2) po_none (po_some pe_int))) (pa_cons pe_int pa_nil))) pa_nil)))
      (pss_one (ps_ret (pe_callB (allK (K := K) rfl rfl) (by rfl) T.b_all (by decide +kernel) (pa_cons (pe_lc (own := [("_law_some", 9), ("_law_due", 10)]) (g := gTup K 2 (gCons (gName 9) (gCons (gName 10) gNil))) (tt := tYes) (te := (tAndV (tOp (rEqD K) (tCall (sp_l_refused K T.Ps) [] E0 (tCons (tM1 (rJoinS K) (tC (.str "\n")) (tVar 9)) tNil)) (tVar 10)) (tCall (sp_l_right K T.Ps) [] E0 (tCons (tM1 (rJoinS K) (tC (.str "\n")) (tVar 9)) tNil)))) (by rfl) sc_l_by_hand.nd (pi_listK (K := K) rfl (pv 8)) (blkOk_by (own := [("_law_some", 9), ("_law_due", 10)]) (N := ["_law_kettles", "_law_moulds", "_law_rows_here", "_law_head", "_law_more", "_law_one", "_law_forms", "_law_other", "_law_texts", "_law_some", "_law_due"]) (sc := defScope s_l_by_hand) (by decide +kernel)) (fun _ _ _ _ _ => (pg_tupK (K := K) rfl rfl (pgs_cons (pg_name (i := 9) sc_l_by_hand.nd rfl (by first | exact Or.inl rfl | exact Or.inr rfl)) (pgs_cons (pg_name (i := 10) sc_l_by_hand.nd rfl (by first | exact Or.inl rfl | exact Or.inr rfl)) pgs_nil)))) (fun _ _ _ _ _ => pts_nil) (fun _ _ _ _ _ => (pe_and (pe_cmpR (eqDK (K := K) rfl hr.units) (pe_call (ok_l_refused T B) (hr.mono (by decide)) (by rfl) T.d_l_refused.mg T.d_l_refused.fn.kp T.d_l_refused.b .nil pass0 (pa_cons (pe_join pe_str (pv 9)) pa_nil)) (pv 10) (nomark _)) (pe_one (pe_call (ok_l_right T B) hr (by rfl) T.d_l_right.mg T.d_l_right.fn.kp T.d_l_right.b .nil pass0 (pa_cons (pe_join pe_str (pv 9)) pa_nil)))))) pa_nil)))))))))), ?_⟩
    have a1 := AK.ld
    have a2 := AM.ld
    obtain ⟨G, nk, nm, eL, rws⟩ := rows_gr AK AM (by omega) (by omega) nd
    have lxR : ∀ y ∈ (ds ++ es).map lineD, Lx y := fun y hy => (rws y hy).elim fun _ h => h.lx
    have lpk : (ds.map fun d => thingP (wordsD d)).length = ks.length := by rw [List.length_map]; omega
    obtain ⟨okB, okC⟩ := hand_rest G eL lxR (by rw [lpk]; exact k1) (fun n hn => noq n (by rw [nk] at hn; exact List.mem_append_left _ hn))
    rw [lpk] at okB
    have lR : ((ds ++ es).map lineD).length ≤ 7 := by rw [List.length_map, List.length_append]; omega
    refine ⟨_, rfl, _, rfl, kl, ml, ks, ms, ns, nt, ds, es, rfl, hK, AK, hM, AM, by omega, by omega, fun l2 H1 s1 h1 => ?_⟩
    generalize (ds ++ es).map lineD = rows at h1 lR okB okC eL lxR
    refine ⟨_, rfl, kl, ks, rfl, .inl ((Sm.of s1).seq hK), _, _, rfl, ?_⟩
    refine ⟨_, rfl, fun l4 n4 => ?_⟩
    refine lc_it (walk_str (z := "abcdefghi")) (fun j H' => Same H1 H' ∧ H' l4 = some (.lst ((moreL.take j).map V.str))) ⟨same_new n4, upd_same⟩ (fun _ _ _ _ => trivial) ?_ ?_
    · rintro j x Hb Ha hj ⟨sa, hDa⟩ ⟨rfl, c, hc, rfl⟩
      refine ⟨rfl, yesT ?_⟩
      have ej : moreL[j]? = some (("kettle q" : Str) ++ S [c] ++ (" 5 0 1/2" : Str)) := by
        unfold moreL
        rw [List.getElem?_map, Array.getElem?_toList, hc] <;> rfl
      have j9 := (List.getElem?_eq_some_iff.mp ej).1
      rw [more_len] at j9
      refine ⟨_, rfl, _, _, rfl, rfl, small (by show 8 + 1 ≤ 100000; decide), _, _, rfl, rfl, small (by rw [len_app15]; show 8 + 1 + 8 ≤ 100000; decide), ?_⟩
      refine ⟨_, hDa, by rw [List.length_map, List.length_take]; exact small' (by omega), Same.put sa n4, ?_⟩
      rw [upd_same, List.take_succ, ej, List.map_append] <;> rfl
    rintro H2 ⟨s2, h2⟩
    rw [List.take_of_length_le (by decide +kernel)] at h2
    refine ⟨_, 6, rfl, rfl, by decide +kernel, by decide, _, 7, rfl, rfl, by decide +kernel, by decide, _, _, rfl, fun l6 n6 => ?_⟩
    refine lc_it (walk_zipS (x := Txt.mul "abcdefg" (6 : Int)) (y := Txt.mul "abcdef" (7 : Int)) (n := 42) (by decide +kernel) (by decide +kernel)) (fun j H' => Same H2 H' ∧ H' l6 = some (.lst ((formsL.take j).map V.str))) ⟨same_new n6, upd_same⟩ (fun _ _ _ _ => trivial) ?_ ?_
    · rintro j x Ha Hb hj ⟨sa, hDa⟩ ⟨t, c1, c2, rfl, nt', rfl, hc1, hc2⟩
      have st := sa.trans (same_new (o := .tup [.str ⟨#[c1]⟩, .str ⟨#[c2]⟩]) nt')
      have ej : formsL[j]? = some (("mould q" : Str) ++ S [c1] ++ S [c2] ++ (" 5 0" : Str)) := by
        unfold formsL
        rw [List.getElem?_zipWith, Array.getElem?_toList, Array.getElem?_toList, hc1, hc2] <;> rfl
      have hDb : (upd Ha t (.tup [.str ⟨#[c1]⟩, .str ⟨#[c2]⟩])) l6 = _ := (upd_ne (ne_of_none hDa nt')).trans hDa
      refine ⟨t, _, rfl, SqT.of upd_same, rfl, _, _, rfl, _, _, rfl, rfl, rfl, yesT ?_⟩
      refine ⟨_, rfl, _, _, rfl, rfl, small (by show 7 + 1 ≤ 100000; decide), _, rfl, _, _, rfl, rfl, small (by rw [len_app15]; show 7 + 1 + 1 ≤ 100000; decide), _, _, rfl, rfl, small (by rw [len_app15, len_app15]; show 7 + 1 + 1 + 4 ≤ 100000; decide), ?_⟩
      refine ⟨_, hDb, by rw [List.length_map, List.length_take]; exact small' (by omega), Same.put st n6, ?_⟩
      rw [upd_same, List.take_succ, ej, List.map_append] <;> rfl
    rintro H3 ⟨s3, h3⟩
    rw [List.take_of_length_le (by decide +kernel)] at h3
    have hr3 := s3 _ _ (s2 _ _ h1)
    have hm3 := s3 _ _ h2
    let F0 : Addr → Prop := fun p => p = l4 ∨ p = l6
    dsimp only [gName]
    refine seq_asg ?_
    refine Epl.run (Pv := fun σ => σ = [some (.ref kl), some (.ref ml), some (.ref l2), some (.int (ks.length : Nat)), some (.ref l4), none, some (.ref l6), none, none, none, none]) (Ph := fun H' => H' l2 = some (.lst (rows.map V.str)) ∧ H' l4 = some (.lst (moreL.map V.str)) ∧ H' l6 = some (.lst (formsL.map V.str))) (ps := handA) ?_ rfl ⟨hr3, hm3, h3⟩ fun l8 x8 H4 H5 s4 W4 n8 s5 h8 => ?_
    · exact epl_lst (epa_cons stb5 (ep_of (F := F0) e0_nil (fun _ _ _ _ q => q)) (epa_cons stb5 (ep_of (F := F0) (e0_var (i := 4) (l := l4) (w := moreL) (fun σ e => by rw [e] <;> rfl) (fun H' h => h.2.1) (.inl rfl)) (fun _ _ _ _ q => q)) (epa_cons stb5 (ep_of (F := F0) (e0_cat stb5 (e0_cut (i := 4) (l := l4) (w := moreL) (fun σ e => by rw [e] <;> rfl) (fun H' h => h.2.1) (fun _ _ _ _ => to_none) (fun _ _ _ _ => to_int)) (e0_cut (i := 6) (l := l6) (w := formsL) (fun σ e => by rw [e] <;> rfl) (fun H' h => h.2.2) (fun _ _ _ _ => to_none) (fun _ _ _ _ => to_int)) (by have := more_len; have := forms_len; have c0 := cutS_le moreL none (some 8); have c1 := cutS_le formsL none (some 41); (try simp only [List.length_append, List.length_cons, List.length_nil]); omega)) (fun _ _ _ _ q => q)) (epa_cons stb5 (ep_of (F := F0) (e0_cut (i := 6) (l := l6) (w := formsL) (fun σ e => by rw [e] <;> rfl) (fun H' h => h.2.2) (fun _ _ _ _ => to_none) (fun _ _ _ _ => to_int)) (fun _ _ _ _ q => q)) (epa_cons stb5 (ep_of (F := F0) (e0_var (i := 6) (l := l6) (w := formsL) (fun σ e => by rw [e] <;> rfl) (fun H' h => h.2.2) (.inr rfl)) (fun _ _ _ _ q => q)) (epa_cons stb5 (ep_of (F := F0) (e0_cat stb5 (e0_cut (i := 6) (l := l6) (w := formsL) (fun σ e => by rw [e] <;> rfl) (fun H' h => h.2.2) (fun _ _ _ _ => to_none) (fun _ _ _ _ => to_int)) (e0_cut (i := 4) (l := l4) (w := moreL) (fun σ e => by rw [e] <;> rfl) (fun H' h => h.2.1) (fun _ _ _ _ => to_none) (fun _ _ _ _ => to_int)) (by have := more_len; have := forms_len; have c0 := cutS_le formsL none (some 40); have c1 := cutS_le moreL none (some 1); (try simp only [List.length_append, List.length_cons, List.length_nil]); omega)) (fun _ _ _ _ q => q)) epa_nil)))))) (by show 6 ≤ 100000; decide)
    have hr5 := s5 _ _ (s4 _ _ hr3)
    have hm5 := s5 _ _ (s4 _ _ hm3)
    have hf5 := s5 _ _ (s4 _ _ h3)
    refine seq_asg (Epl.run (Pv := fun σ => σ = [some (.ref kl), some (.ref ml), some (.ref l2), some (.int (ks.length : Nat)), some (.ref l4), none, some (.ref l6), none, some (.ref l8), none, none]) (Ph := fun H' => H' l2 = some (.lst (rows.map V.str)) ∧ H' l4 = some (.lst (moreL.map V.str)) ∧ H' l6 = some (.lst (formsL.map V.str)) ∧ (H' l8 = some (.lst x8) ∧ PL H' x8 handA)) (ps := handA ++ handB rows (ks.length : Nat)) ?_ rfl ⟨hr5, hm5, hf5, h8, W4.same s5⟩ fun l9 x9 H6 H7 s6 W6 n9 s7 h9 => ?_)
    · exact epl_catv (i := 8) (l := l8) (xs := x8) (fun σ e => by rw [e] <;> rfl) (fun H' h => h.2.2.2) (epl_lst (epa_cons stb4 (ep_of (F := F0) (e0_cat stb4 (e0_cat stb4 (e0_cut (i := 2) (l := l2) (w := rows) (fun σ e => by rw [e] <;> rfl) (fun H' h => h.1) (fun _ _ _ _ => to_none) (fun σ H Q e q => ⟨_, (by rw [e] <;> rfl), _, rfl, q⟩)) (e0_cut (i := 6) (l := l6) (w := formsL) (fun σ e => by rw [e] <;> rfl) (fun H' h => h.2.2.1) (fun _ _ _ _ => to_none) (fun _ _ _ _ => to_int)) (by have := more_len; have := forms_len; have c0 := cutS_le rows none (some ((ks.length : Nat) : Int)); have c1 := cutS_le formsL none (some 1); (try simp only [List.length_append, List.length_cons, List.length_nil]); omega)) (e0_cut (i := 4) (l := l4) (w := moreL) (fun σ e => by rw [e] <;> rfl) (fun H' h => h.2.1) (fun _ _ _ _ => to_none) (fun _ _ _ _ => to_int)) (by have := more_len; have := forms_len; have c0 := cutS_le rows none (some ((ks.length : Nat) : Int)); have c1 := cutS_le formsL none (some 1); have c2 := cutS_le moreL none (some 1); (try simp only [List.length_append, List.length_cons, List.length_nil]); omega)) (fun σ H Q e q => ⟨_, (by rw [e] <;> rfl), _, _, rfl, rfl, q⟩)) (epa_cons stb4 (ep_of (F := F0) e0_one (fun _ _ _ _ q => q)) (epa_cons stb4 (ep_of (F := F0) (e0_cat stb4 (e0_cut (i := 2) (l := l2) (w := rows) (fun σ e => by rw [e] <;> rfl) (fun H' h => h.1) (fun _ _ _ _ => to_none) (fun σ H Q e q => ⟨_, (by rw [e] <;> rfl), _, rfl, q⟩)) e0_one (by have := more_len; have := forms_len; have c0 := cutS_le rows none (some ((ks.length : Nat) : Int)); (try simp only [List.length_append, List.length_cons, List.length_nil]); omega)) (fun σ H Q e q => ⟨_, (by rw [e] <;> rfl), q⟩)) epa_nil))) (by show 3 ≤ 100000; decide)) (by show 6 + 3 ≤ 1000; decide)
    have hr7 := s7 _ _ (s6 _ _ hr5)
    have hm7 := s7 _ _ (s6 _ _ hm5)
    have hf7 := s7 _ _ (s6 _ _ hf5)
    refine ⟨_, rfl, .inl ⟨rfl, _, SqL.of h9⟩, Ep.run (F := F0) (Pv := fun σ => σ = [some (.ref kl), some (.ref ml), some (.ref l2), some (.int (ks.length : Nat)), some (.ref l4), none, some (.ref l6), none, some (.ref l9), none, none]) (Ph := fun H' => H' l2 = some (.lst (rows.map V.str)) ∧ H' l4 = some (.lst (moreL.map V.str)) ∧ H' l6 = some (.lst (formsL.map V.str)) ∧ (H' l9 = some (.lst x9) ∧ PL H' x9 (handA ++ handB rows (ks.length : Nat)))) (z := handC rows) ?_ rfl ⟨hr7, hm7, hf7, h9, W6.same s7⟩ fun t p H8 s8 fr nt ht hp => ⟨l9, x9, _, rfl, rfl, s8 _ _ h9, by rw [W6.len]; exact small' (by show 6 + 3 < 100000; decide), ?_⟩⟩
    · exact ep_of (F := F0) (e0_cat stb4 (e0_cat stb4 (e0_cut (i := 4) (l := l4) (w := moreL) (fun σ e => by rw [e] <;> rfl) (fun H' h => h.2.1) (fun _ _ _ _ => to_none) (fun _ _ _ _ => to_int)) (e0_cut (i := 6) (l := l6) (w := formsL) (fun σ e => by rw [e] <;> rfl) (fun H' h => h.2.2.1) (fun _ _ _ _ => to_none) (fun _ _ _ _ => to_int)) (by have := more_len; have := forms_len; have c0 := cutS_le moreL none (some 8); have c1 := cutS_le formsL none (some 40); (try simp only [List.length_append, List.length_cons, List.length_nil]); omega)) (e0_cut (i := 2) (l := l2) (w := rows) (fun σ e => by rw [e] <;> rfl) (fun H' h => h.1) (fun _ _ _ _ => to_none) (fun _ _ _ _ => to_int)) (by have := more_len; have := forms_len; have c0 := cutS_le moreL none (some 8); have c1 := cutS_le formsL none (some 40); have c2 := cutS_le rows none (some 1); (try simp only [List.length_append, List.length_cons, List.length_nil]); omega)) (fun _ _ _ _ q => q)
    have h9' := s8 _ _ h9
    have tl9 : t ≠ l9 := fun e => by
      rw [e, h9'] at ht
      cases ht
    have pl9 : p ≠ l9 := fun e => by
      rcases fr with fr | fr | fr
      · rw [e, h9] at fr
        cases fr
      · rw [← e, fr, s6 _ _ hm5] at n9
        cases n9
      · rw [← e, fr, s6 _ _ hf5] at n9
        cases n9
    have W8 : PL (upd H8 l9 (.lst (x9 ++ [.ref t]))) (x9 ++ [.ref t]) ((handA ++ handB rows (ks.length : Nat)) ++ [handC rows]) := (W6.over n9 (s7.trans s8)).app (.cons (by rw [upd_ne tl9]; exact ht) (by rw [upd_ne pl9]; exact hp) .nil)
    have s08 : Same H H8 := s1.trans (s2.trans (s3.trans (s4.trans (s5.trans (s6.trans (s7.trans s8))))))
    have s06 : Same H H6 := s1.trans (s2.trans (s3.trans (s4.trans (s5.trans s6))))
    have SH : Sm H (upd H8 l9 (.lst (x9 ++ [.ref t]))) := .of (Same.put s08 (none_of s06 n9))
    have h99 : (upd H8 l9 (.lst (x9 ++ [.ref t]))) l9 = some (.lst (x9 ++ [.ref t])) := upd_same
    generalize upd H8 l9 (.lst (x9 ++ [.ref t])) = H9 at W8 SH h99
    have ok : ∀ z ∈ (handA ++ handB rows (ks.length : Nat)) ++ [handC rows], Hd z := all_app (all_app handA_ok okB) (all_cons okC nofun)
    have l10 : ((handA ++ handB rows (ks.length : Nat)) ++ [handC rows]).length = 10 := rfl
    have lx9 : (x9 ++ [V.ref t]).length = 10 := by rw [W8.len, l10]
    generalize (handA ++ handB rows (ks.length : Nat)) ++ [handC rows] = ps at W8 ok l10
    generalize x9 ++ [V.ref t] = xs at W8 h99 lx9
    refine ⟨_, rfl, l9, rfl, ⟨_, SqL.of h99⟩, fun D hD => ?_⟩
    refine lc_it (walk_list (K := K) (a := l9) (xs := xs)) (fun j H' => Sm H9 H' ∧ H' D = some (.lst (List.replicate j (.bl true)))) ⟨.of (same_new hD), upd_same⟩ (fun j H' _ z => SqL.of (z.1.lst h99)) ?_ ?_
    · rintro j x Hb Ha hj ⟨sa, hDa⟩ ⟨rfl, hx⟩
      obtain ⟨z, hz⟩ : ∃ z, ps[j]? = some z := ⟨_, List.getElem?_eq_getElem (by omega)⟩
      obtain ⟨u, v, rfl, hu, hv⟩ := W8.get hz hx
      obtain ⟨w, d⟩ := z
      obtain ⟨n, en, l50, lxw, rd⟩ := ok _ (List.mem_of_getElem? hz)
      have en : d = (n : Int) := en
      subst en
      have hu2 := sa.keep _ _ hu nofun
      have hv2 := sa.lst hv
      have bd : (w.map (·.length)).sum + w.length * ("\n" : Str).length ≤ 16777216 := by
        have lxw : ∀ y ∈ w, Lx y := lxw
        have s9 : (w.map (·.length)).sum ≤ 707 * w.length := sum_lx lxw
        have l50 : w.length ≤ 50 := l50
        show _ + w.length * 1 ≤ 16777216
        omega
      refine ⟨u, _, rfl, SqT.of hu2, rfl, _, _, rfl, _, _, rfl, rfl, rfl, yesT ?_⟩
      refine ⟨⟨_, rfl⟩, _, rfl, "\n", v, w, rfl, rfl, .inl (SqL.of hv2), bd, _, rfl, len_lx lxw l50, hT.sm (SH.trans sa), fun m em Hc sc => ?_, fun st em => (by rw [rd] at em; cases em)⟩
      rw [rd] at em
      cases em
      refine ⟨_, rfl, .int n, .int n, .int _, .int _, rfl, rfl, ?_⟩
      rw [SeqAt.eqv_refl _ rfl]
      refine ⟨true, rfl, iteT ?_⟩
      refine ⟨⟨_, rfl⟩, _, rfl, "\n", v, w, rfl, rfl, .inl (SqL.of (sc.lst hv2)), bd, _, rfl, len_lx lxw l50, hT.sm (SH.trans (sa.trans sc)), fun Hd sd => ?_⟩
      refine ⟨_, sd.lst (sc.lst hDa), by rw [List.length_replicate]; exact small' (by omega), Sm.put (sa.trans (sc.trans sd)) hD, ?_⟩
      rw [upd_same, List.replicate_succ'] <;> rfl
    · rintro Ha ⟨sa, hDa⟩
      obtain ⟨t1, t2⟩ := all_true xs.length
      refine ⟨D, List.replicate xs.length true, rfl, SqL.of (by rw [t1]; exact hDa), ?_⟩
      rw [t2]
      exact q Ha (SH.trans sa)

end
end KR
namespace KR
open PySem PySem.Spec PyProof.Rows L2
section
variable {P : Program} {w : World} {K : PySem.W.Frag} {mg : Str → Option Value} {base : Heap}
theorem sm_new_fs15 {H0 H1 H2 : Hp} {p : Addr} (s : Same H0 H1) (n : H0 p = none) (F : Fs p H1 H2) : Sm H0 H2 := by
  refine ⟨fun b o h no => F.keep b o (ne_of_none h n) (s _ _ h) no, fun b t => ?_⟩
  obtain ⟨q, e⟩ := tab_at t
  exact F.tab b (ne_of_none e n) ((Sm.of s).tab b t)
theorem ixN_at15 {n i : Nat} (h : i < n) : ixN n (i : Int) = some i := by
  unfold ixN
  rw [if_pos (by omega), if_pos (by omega), Int.toNat_natCast]
theorem cut_dropS (w : List Str) {k : Nat} (h : k ≤ w.length) : cutS w (some (k : Int)) none = w.drop k := by
  unfold cutS
  rw [HT.sIx_none, HT.sIx_nat, Nat.min_eq_left h]
  exact List.take_of_length_le (by rw [List.length_drop]; exact Nat.le_refl _)
theorem Ez.run {F : Addr → Prop} {Pv : L2.St → Prop} {Ph : Hp → Prop} {te : TE} {w : List Str} (h : Ez F Pv Ph te w) {σ : L2.St} {H : Hp} {Q : VK} (pv : Pv σ) (ph : Ph H) (q : ∀ p H', Same H H' → (H p = none ∨ F p) → H' p = some (.lst (w.map V.str)) → Q (.ref p) H') : te σ H Q := h σ H Q pv ph q
theorem wd_all {K : PySem.W.Frag} {H : Hp} {ks ms : List V} {ns nt : List Str} {ds es : List PyData} (AK : AllAt (KetAt K H) ks ns ds) (AM : AllAt (MouAt K H) ms nt es) : ∀ y ∈ ns ++ nt, Wd y := fun y hy => by
  rcases List.mem_append.mp hy with h | h
  · obtain ⟨i, hi⟩ := List.getElem?_of_mem h
    have li := (List.getElem?_eq_some_iff.mp hi).1
    have := AK.ln
    have := AK.ld
    obtain ⟨v, hv⟩ : ∃ v, ks[i]? = some v := ⟨_, List.getElem?_eq_getElem (by omega)⟩
    obtain ⟨d, hd⟩ : ∃ d, ds[i]? = some d := ⟨_, List.getElem?_eq_getElem (by omega)⟩
    obtain ⟨_, _, _, _, w, _⟩ := kd_words (AK.at_ i v y d hv hi hd).d
    exact w
  · obtain ⟨i, hi⟩ := List.getElem?_of_mem h
    have li := (List.getElem?_eq_some_iff.mp hi).1
    have := AM.ln
    have := AM.ld
    obtain ⟨v, hv⟩ : ∃ v, ms[i]? = some v := ⟨_, List.getElem?_eq_getElem (by omega)⟩
    obtain ⟨d, hd⟩ : ∃ d, es[i]? = some d := ⟨_, List.getElem?_eq_getElem (by omega)⟩
    obtain ⟨_, _, _, w, _⟩ := md_words (AM.at_ i v y d hv hi hd).d
    exact w
theorem Fs.putF {p sl : Addr} {H0 Ha H : Hp} {xs ys : List V} (F0 : Fs p H0 Ha) (n : Ha sl = none) (F : Fs p H0 H) (hsl : H sl = some (.lst xs)) : Fs p H0 (upd H sl (.lst ys)) := by
  refine ⟨fun b o hb e no => ?_, fun b hb t => ?_⟩
  · have hb' : b ≠ sl := fun z => by
      have := F0.keep b o hb e no
      rw [z, n] at this
      cases this
    rw [upd_ne hb']
    exact F.keep b o hb e no
  · obtain ⟨g, e, z⟩ := F.tab b hb t
    refine ⟨g, ?_, z⟩
    rw [upd_ne (fun w => by rw [w, hsl] at e; cases e)]
    exact e
theorem wrong_len (ws as : List Str) : (wrongsL ws as ++ wrongsM ws).length ≤ 50 + as.length := by
  have h1 : (wrongsL ws as).length ≤ 40 + as.length := by
    have := cutS_le as (some (-1)) none
    simp only [wrongsL, List.length_append, List.length_map, List.length_cons, List.length_nil]
    omega
  have h2 : (wrongsM ws).length ≤ 6 := by
    unfold wrongsM
    split
    · show 6 ≤ 6
      decide
    · show 3 ≤ 6
      decide
  rw [List.length_append]
  omega
theorem lx_x : Lx "x" := ⟨by decide +kernel, by decide +kernel⟩
theorem line_x : lineP "x" = [] := by decide +kernel
def sp_p_law (K : PySem.W.Frag) (Ps : List Addr) : Sp := fun vs H Q _ => ∃ (a : Addr) (ns : List Int), vs = [.ref a] ∧ SqL K H a (ns.map V.int) ∧ ns.length ≤ 63 ∧ Tbs Ps H ∧ ∀ H', Q (.bl true) H'
theorem ok_p_law (T : All K mg) (B : Tabs T base) : FnG P w K mg base 13 T.f_p_law T.fd_p_law ["_law_script"] (sp_p_law K T.Ps) := by
  refine okG T.d_p_law.fn sc_p_law (fun vs H Q E h => ?_) (fun cdv A outer s H vs Q E hr hg h => ?_)
  · obtain ⟨a, ns, rfl, _⟩ := h
    rfl
  · obtain ⟨a, ns, rfl, hS, hlen, hT, q⟩ := h
    refine ⟨_, (pss_cons (ps_for PassesOwn.never rfl (pi_range1 (by rfl) T.b_range (pa_cons (pe_callB (call_max2 rfl) (by rfl) T.b_max (by decide +kernel) (pa_cons pe_int (pa_cons (pe_callB (call_min2 rfl) (by rfl) T.b_min (by decide +kernel) (pa_cons (pe_callB (lenQ (K := K) rfl) (by rfl) T.b_len PySem.boot_len (pa_cons (pv 0) pa_nil)) (pa_cons pe_int pa_nil))) pa_nil))) pa_nil)) (pg_name (i := 1) sc_p_law.nd rfl (by first | exact Or.inl rfl | exact Or.inr rfl)) (pss_cons (ps_set (i := 2) sc_p_law.nd rfl (by first | exact Or.inl rfl | exact Or.inr rfl) (pe_call (ok_l_box T) (hr.mono (by decide)) (by rfl) T.d_l_box.mg T.d_l_box.fn.kp T.d_l_box.b .nil pass0 (pa_cons (pv 0) (pa_cons (pv 1) pa_nil))))
      (pss_cons (ps_asg (pe_call (ok_l_row T) (hr.mono (by decide)) (by rfl) T.d_l_row.mg T.d_l_row.fn.kp T.d_l_row.b .nil pass0 (pa_cons (pv 2) (pa_cons (pe_op op_add pe_int (pe_call (ok_l_take T) (hr.mono (by decide)) (by rfl) T.d_l_take.mg T.d_l_take.fn.kp T.d_l_take.b .nil pass0 (pa_cons (pv 2) (pa_cons pe_int pa_nil)))) (pa_cons (pe_call (ok_l_take T) (hr.mono (by decide)) (by rfl) T.d_l_take.mg T.d_l_take.fn.kp T.d_l_take.b .nil pass0 (pa_cons (pv 2) (pa_cons pe_int pa_nil))) pa_nil)))) (pg_tupK (K := K) rfl rfl (pgs_cons (pg_name (i := 3) sc_p_law.nd rfl (by first | exact Or.inl rfl | exact Or.inr rfl)) (pgs_cons (pg_name (i := 4) sc_p_law.nd rfl (by first | exact Or.inl rfl | exact Or.inr rfl)) pgs_nil))))
      (pss_cons (ps_par (i := 5) (j := 6) (by rfl) sc_p_law.nd rfl rfl (by decide) rfl rfl (pa_cons (pe_call (ok_l_rows T) (hr.mono (by decide)) (by rfl) T.d_l_rows.mg T.d_l_rows.fn.kp T.d_l_rows.b .nil pass0 (pa_cons (pv 3) (pa_cons (pv 4) pa_nil))) (pa_cons (pe_lc (own := [("_law_one", 7)]) (g := gName 7) (tt := tYes) (by rfl) sc_p_law.nd (pi_listK (K := K) rfl (pe_op op_catI (pv 3) (pv 4))) (blkOk_by (own := [("_law_one", 7)]) (N := ["_law_script", "_law_k", "_law_box_here", "_law_kettles", "_law_moulds", "_law_rows_here", "_law_names_here", "_law_one", "_law_at", "_law_wrong_here", "_law_some", "_law_other"]) (sc := defScope s_p_law) (by decide +kernel)) (fun _ _ _ _ _ => (pg_name (i := 7) sc_p_law.nd rfl (by first | exact Or.inl rfl | exact Or.inr rfl))) (fun _ _ _ _ _ => pts_nil) (fun _ _ _ _ _ => (pe_ix (ixT (K := K) rfl) (pv 7) pe_int (fun _ _ => rfl)))) pa_nil)) (by rfl))
      (pss_cons (ps_set (i := 8) sc_p_law.nd rfl (by first | exact Or.inl rfl | exact Or.inr rfl) (pe_call (ok_l_take T) (hr.mono (by decide)) (by rfl) T.d_l_take.mg T.d_l_take.fn.kp T.d_l_take.b .nil pass0 (pa_cons (pv 2) (pa_cons (pe_callB (lenQ (K := K) rfl) (by rfl) T.b_len PySem.boot_len (pa_cons (pv 5) pa_nil)) pa_nil))))
      (pss_cons (ps_for PassesOwn.never rfl (pi_listK (K := K) rfl (pe_call (ok_l_wrong T) (hr.mono (by decide)) (by rfl) T.d_l_wrong.mg T.d_l_wrong.fn.kp T.d_l_wrong.b .nil pass0 (pa_cons (pe_split (pe_ix (ixL (K := K) rfl) (pv 5) (pv 8) (fun _ _ => rfl)) pe_str) (pa_cons (pe_slice (slL (K := K) rfl) (pv 6) po_none (po_some (pv 8))) pa_nil)))) (pg_name (i := 9) sc_p_law.nd rfl (by first | exact Or.inl rfl | exact Or.inr rfl)) (pss_cons (ps_set (i := 10) sc_p_law.nd rfl (by first | exact Or.inl rfl | exact Or.inr rfl) (pe_op op_catI (pe_op op_catI (pe_slice (slL (K := K) rfl) (pv 5) po_none (po_some (pv 8))) (pe_lstI (pa_cons (pv 9) pa_nil))) (pe_slice (slL (K := K) rfl) (pv 5) (po_some (pe_op op_add (pv 8) pe_int)) po_none)))
      (pss_cons (ps_if (PW.pt (pw_or (pt_cmpR (neDK (K := K) rfl hr.units) (pe_call (ok_l_refused T B) (hr.mono (by decide)) (by rfl) T.d_l_refused.mg T.d_l_refused.fn.kp T.d_l_refused.b .nil pass0 (pa_cons (pe_join pe_str (pv 10)) pa_nil)) (pv 8) (nomark _)) (pw_or1 (pt_not (pt_val (pe_call (ok_l_right T B) (hr.mono (by decide)) (by rfl) T.d_l_right.mg T.d_l_right.fn.kp T.d_l_right.b .nil pass0 (pa_cons (pe_join pe_str (pv 10)) pa_nil))))))) (pss_one (ps_ret pe_bl)) pss_nil)
      (pss_cons (ps_set (i := 11) sc_p_law.nd rfl (by first | exact Or.inl rfl | exact Or.inr rfl) (pe_call (ok_l_take T) (hr.mono (by decide)) (by rfl) T.d_l_take.mg T.d_l_take.fn.kp T.d_l_take.b .nil pass0 (pa_cons (pv 2) (pa_cons (pe_callB (lenQ (K := K) rfl) (by rfl) T.b_len PySem.boot_len (pa_cons (pv 5) pa_nil)) pa_nil))))
      (pss_cons (ps_asg pe_str (pg_sub (pv 10) (pv 11) set_list))
      (pss_one (ps_if (pt_cmpR (neDK (K := K) rfl hr.units) (pe_call (ok_l_refused T B) (hr.mono (by decide)) (by rfl) T.d_l_refused.mg T.d_l_refused.fn.kp T.d_l_refused.b .nil pass0 (pa_cons (pe_join pe_str (pv 10)) pa_nil)) (pe_callB (call_min2 rfl) (by rfl) T.b_min (by decide +kernel) (pa_cons (pv 8) (pa_cons (pv 11) pa_nil))) (nomark _)) (pss_one (ps_ret pe_bl)) pss_nil)))))))
      (pss_one (ps_if (PW.pt (pw_or (pt_not (pt_val (pe_call (ok_l_right T B) (hr.mono (by decide)) (by rfl) T.d_l_right.mg T.d_l_right.fn.kp T.d_l_right.b .nil pass0 (pa_cons (pe_join pe_str (pv 5)) pa_nil)))) (pw_or1 (pt_not (pt_val (pe_call (ok_l_by_hand T B) hr (by rfl) T.d_l_by_hand.mg T.d_l_by_hand.fn.kp T.d_l_by_hand.b .nil pass0 (pa_cons (pv 3) (pa_cons (pv 4) pa_nil)))))))) (pss_one (ps_ret pe_bl)) pss_nil))))))))
      (pss_one (ps_ret pe_bl))), ?_⟩
    obtain ⟨m, em, m1⟩ : ∃ m : Nat, (if (if (4 : Int) < (ns.length : Int) then (4 : Int) else (ns.length : Int)) > 2 then (if (4 : Int) < (ns.length : Int) then (4 : Int) else (ns.length : Int)) else 2) = (m : Int) ∧ m ≤ 6 := by
      refine ⟨(if (if (4 : Int) < (ns.length : Int) then (4 : Int) else (ns.length : Int)) > 2 then (if (4 : Int) < (ns.length : Int) then (4 : Int) else (ns.length : Int)) else 2).toNat, ?_, ?_⟩ <;> (repeat' split) <;> omega
    refine ⟨_, rfl, a, _, rfl, .inl hS, _, _, rfl, _, _, rfl, m, (by rw [List.length_map, em]), by omega, by omega, for_range (lo := 0) (n := m) (fun i σ H' => ∃ v1 v2 v3 v4 v5 v6 v7 v8 v9 v10 v11 : Option V, σ = [some (.ref a), v1, v2, v3, v4, v5, v6, v7, v8, v9, v10, v11] ∧ Sm H H') ⟨none, none, none, none, none, none, none, none, none, none, none, rfl, Sm.refl⟩ ?_ ?_⟩
    · rintro i σ H0 hi ⟨v1, v2, v3, v4, v5, v6, v7, v8, v9, v10, v11, rfl, sm⟩
      refine ⟨_, rfl, _, rfl, a, ns, _, rfl, sm.seq hS, by omega, by omega, fun p H2 s2 n2 B2 => ?_⟩
      refine ⟨_, rfl, _, rfl, p, 3, 0, rfl, B2, by omega, by decide, by decide, fun z H3 z0 z1 B3 F3 => ⟨_, _, rfl, rfl, _, rfl, p, 5, 0 + 1, rfl, B3, by omega, by decide, by decide, fun zj H4 j0 j5 B4 F4 => ?_⟩⟩
      obtain ⟨ni, eni⟩ : ∃ ni : Nat, 1 + z = (ni : Int) := ⟨(1 + z).toNat, by omega⟩
      obtain ⟨nj, rfl⟩ : ∃ nj : Nat, zj = (nj : Int) := ⟨zj.toNat, by omega⟩
      refine ⟨p, 2, ni, nj, congrArg (fun x => [V.ref p, V.int x, V.int (nj : Int)]) eni, by omega, by omega, by omega, B4, by decide, fun t kl ml ks ms nn nt ds es H5 ht hkl hml AK AM lk lm nd noq B5 F5 => ?_⟩
      refine ⟨t, _, rfl, SqT.of ht, rfl, _, _, rfl, _, _, rfl, rfl, ?_⟩
      have a1 := AK.ld
      have a2 := AM.ld
      have a3 := AK.ln
      have a4 := AM.ln
      refine ⟨_, rfl, _, rfl, kl, ml, ks, ms, nn, nt, ds, es, rfl, SqL.of hkl, AK, SqL.of hml, AM, by omega, by omega, fun rl H6 s6 h6 => ?_⟩
      obtain ⟨G, nk, nm, eL, rws⟩ := rows_gr AK AM (by omega) (by omega) nd
      have hkl6 := s6 _ _ hkl
      have hml6 := s6 _ _ hml
      refine ⟨_, rfl, _, rfl, kl, ml, _, _, rfl, rfl, hkl6, hml6, by rw [sizeLine_eq]; omega, fun cl H7 s7 n7 h7 => ⟨cl, rfl, ⟨_, SqL.of h7⟩, fun nl n8 => ?_⟩⟩
      refine lc_it (walk_list (K := K) (a := cl) (xs := ks ++ ms)) (fun j H' => Same H7 H' ∧ H' nl = some (.lst (((nn ++ nt).take j).map V.str))) ⟨same_new n8, upd_same⟩ (fun j H' _ z => SqL.of (z.1 _ _ h7)) ?_ ?_
      · rintro j x Hb Ha hj ⟨sa, hDa⟩ ⟨rfl, hx⟩
        have s5a : Same H5 Ha := s6.trans (s7.trans sa)
        obtain ⟨y, b, zs, ey, rfl, hb⟩ : ∃ (y : Str) (b : Addr) (zs : List V), (nn ++ nt)[j]? = some y ∧ x = .ref b ∧ SqT K Ha b (.str y :: zs) := by
          rw [List.length_append] at hj
          by_cases c : j < ks.length
          · rw [List.getElem?_append_left c] at hx
            obtain ⟨y, d, hy, _, b, m', r, f, t', b', e, h1, _⟩ := AK.get hx
            exact ⟨y, b, _, by rw [List.getElem?_append_left (by omega)]; exact hy, e, (Sm.of s5a).tup h1⟩
          · rw [List.getElem?_append_right (by omega)] at hx
            obtain ⟨y, d, hy, _, b, m', r, t', b', e, h1, _⟩ := AM.get hx
            exact ⟨y, b, _, by rw [List.getElem?_append_right (by omega), ← a3]; exact hy, e, (Sm.of s5a).tup h1⟩
        refine ⟨rfl, yesT ?_⟩
        refine ⟨_, rfl, b, _, 0, _, rfl, rfl, hb, at0, ?_⟩
        have jl := (List.getElem?_eq_some_iff.mp ey).1
        rw [List.length_append] at jl
        refine ⟨_, hDa, by rw [List.length_map, List.length_take]; exact small' (by omega), Same.put sa n8, ?_⟩
        rw [upd_same, List.take_succ, ey, List.map_append] <;> rfl
      rintro H8 ⟨s8, h8⟩
      rw [List.take_of_length_le (by rw [List.length_append, List.length_append]; omega)] at h8
      have s58 : Same H5 H8 := s6.trans (s7.trans s8)
      have h68 := (s7.trans s8) _ _ h6
      have B8 := B5.same s58
      obtain ⟨L, eLL⟩ : ∃ L, (ds ++ es).map lineD = L := ⟨_, rfl⟩
      rw [eLL] at h68 eL rws
      have lL : L.length = ks.length + ms.length := by rw [← eLL, List.length_map, List.length_append]; omega
      refine ⟨_, _, rfl, ?_⟩
      refine ⟨_, rfl, _, rfl, rl, _, rfl, .inl (SqL.of h68), p, (L.length : Int), 302, ?_, B8, by decide, by omega, by omega, fun at_ H9 t0 t1 B9 F9 => ?_⟩
      · rw [List.length_map] <;> rfl
      obtain ⟨an, rfl⟩ : ∃ an : Nat, at_ = (an : Int) := ⟨at_.toNat, by omega⟩
      have aL : an < L.length := by omega
      obtain ⟨row, erow⟩ : ∃ row, L[an]? = some row := ⟨_, List.getElem?_eq_getElem aL⟩
      have rlp : rl ≠ p := by
        obtain ⟨o, ho⟩ := box_lst B5
        exact fun z => by
          have := s6 _ _ ho
          rw [← z, h6] at this
          obtain ⟨x0, y0, z0', hb, _⟩ := B8
          rw [← z, h68] at hb
          cases L with
          | nil => simp at aL
          | cons y r => cases hb
      have nlp : nl ≠ p := fun z => by
        have hb := B5.same (s6.trans s7)
        obtain ⟨o, ho⟩ := box_lst hb
        rw [← z, n8] at ho
        cases ho
      have h69 := F9 _ _ rlp h68
      have h89 := F9 _ _ nlp h8
      have lxL : ∀ y ∈ L, Lx y := fun y hy => (rws y hy).elim fun _ h => h.lx
      obtain ⟨ps, R⟩ := rws row (List.mem_of_getElem? erow)
      obtain ⟨ws, esp, _, cases'⟩ := R.sp
      have lrow : row.length ≤ 707 := R.lx.2
      refine ⟨_, rfl, _, rfl, rl, _, (an : Int), .str row, rfl, rfl, SqL.of h69, at_of (j := an) rfl (by rw [List.getElem?_map, erow] <;> rfl), ⟨_, rfl⟩, row, " ", rfl, rfl, rfl, by rw [sizeLine_eq]; omega, fun wl hwl => ?_⟩
      rw [esp]
      have sA : Same H9 (upd H9 wl (.lst (ws.map V.str))) := same_new hwl
      have hwl' : (upd H9 wl (.lst (ws.map V.str))) wl = some (.lst (ws.map V.str)) := upd_same
      generalize upd H9 wl (.lst (ws.map V.str)) = HA at sA hwl'
      refine ⟨_, rfl, _, rfl, _, rfl, nl, _, rfl, SqL.of (sA _ _ h89), fun al HB sB nB hB => ?_⟩
      rw [cut_map, cut_takeS] at hB
      have l5 : 4 ≤ ws.length ∧ ws.length ≤ 5 := by
        rcases cases' with ⟨_, _, _, _, e, _⟩ | ⟨_, _, _, e, _⟩
        · rw [e]
          exact ⟨by show 4 ≤ 5; decide, by show 5 ≤ 5; decide⟩
        · rw [e]
          exact ⟨by show 4 ≤ 4; decide, by show 4 ≤ 5; decide⟩
      obtain ⟨pk, epk⟩ : ∃ pk, (ds.map fun d => thingP (wordsD d)) = pk := ⟨_, rfl⟩
      obtain ⟨pm, epm⟩ : ∃ pm, (es.map fun d => thingP (wordsD d)) = pm := ⟨_, rfl⟩
      rw [epk] at G nk eL
      rw [epm] at G nm eL
      have nst : (pk.take an ++ pm.take (an - pk.length)).map nmO = (nn ++ nt).take an := by rw [← List.take_append, List.map_take, List.map_append, nk, nm]
      have ha : ∀ y ∈ (nn ++ nt).take an, Wd y ∧ y ∈ (pk.take an ++ pm.take (an - pk.length)).map nmO := fun y hy => ⟨wd_all AK AM y (List.mem_of_mem_take hy), by rw [nst]; exact hy⟩
      have okW : ∀ s ∈ wrongsL ws ((nn ++ nt).take an) ++ wrongsM ws, Wr (pk.take an, pm.take (an - pk.length)) s := by
        rcases cases' with ⟨n, r, f, m', e, w1, w2, w3, w4⟩ | ⟨n, r, m', e, w1, w2, w3⟩
        · rw [e]
          exact wrong_k w1 w2 w3 w4 ha
        · rw [e]
          exact wrong_m w1 w2 w3 ha
      refine ⟨wl, al, ws, (nn ++ nt).take an, rfl, sB _ _ hwl', hB, l5.1, l5.2, by rw [List.length_take, List.length_append]; omega, fun s hs => ⟨(okW s hs).1, fun x hx => ((okW s hs).2.1 x hx).2⟩, fun xl HC sC hxl => ?_⟩
      have s9C : Same H9 HC := sA.trans (sB.trans sC)
      have BC := B9.same s9C
      have FC : Fr p H2 HC := (F3.trans (F4.trans F5)).trans ((Fr.of s58).trans (F9.trans (.of s9C)))
      have xlp : xl ≠ p := fun z => by
        obtain ⟨x0, y0, z0', hb, _⟩ := BC
        rw [← z, hxl] at hb
        have := congrArg (fun o => match o with | some (HO.lst (V.str _ :: _)) => true | some (HO.lst []) => true | _ => false) hb
        revert this
        cases (wrongsL ws ((nn ++ nt).take an) ++ wrongsM ws) <;> exact nofun
      have hlC := s9C _ _ h69
      have lWS : (wrongsL ws ((nn ++ nt).take an) ++ wrongsM ws).length ≤ 100 := by
        have := wrong_len ws ((nn ++ nt).take an)
        have c7 : ((nn ++ nt).take an).length ≤ 7 := by
          rw [List.length_take, List.length_append]
          omega
        omega
      generalize wrongsL ws ((nn ++ nt).take an) ++ wrongsM ws = WS at okW hxl lWS
      have tbs : ∀ {Hx : Hp}, Fs p HC Hx → Tbs T.Ps Hx := fun F => (hT.sm sm).sm (sm_new_fs15 s2 n2 ((Fs.of FC).trans F))
      have bdOf : ∀ {w : List Str}, (∀ y ∈ w, Lx y) → w.length ≤ 50 → (w.map (·.length)).sum + w.length * ("\n" : Str).length ≤ 16777216 := fun {w} lw l50 => by
        have s9 : (w.map (·.length)).sum ≤ 707 * w.length := sum_lx lw
        show _ + w.length * 1 ≤ 16777216
        omega
      have kL : L.length ≤ 7 := by omega
      refine ⟨xl, rfl, ⟨_, SqL.of hxl⟩, for_it (walk_list (K := K) (a := xl) (xs := (WS.map fun s => Txt.join " " s).map V.str)) (fun j σ H' => ∃ (w7 w9 w10 w11 : Option V) (k : Nat), σ = [some (.ref a), some (.int (0 + (i : Int))), some (.ref p), some (.ref kl), some (.ref ml), some (.ref rl), some (.ref nl), w7, some (.int (an : Int)), w9, w10, w11] ∧ Fs p HC H' ∧ BoxAt H' p k ∧ k ≤ 303 + j)
        ⟨_, _, _, _, _, rfl, .refl, BC, Nat.le_refl _⟩ (fun j σ H' _ ⟨_, _, _, _, _, _, F, _⟩ => SqL.of (F.keep _ _ xlp hxl nofun)) ?_ ?_⟩
      · rintro j x σ Ha' Ha hj ⟨w7, w9, w10, w11, k, rfl, F, Bx, hk⟩ ⟨rfl, hx⟩
        rw [List.length_map, List.length_map] at hj
        obtain ⟨s, hs, rfl⟩ : ∃ s, WS[j]? = some s ∧ x = V.str (Txt.join " " s) := by
          rw [List.getElem?_map, List.getElem?_map, List.getElem?_eq_getElem hj] at hx
          exact ⟨_, List.getElem?_eq_getElem hj, (Option.some.inj hx).symm⟩
        obtain ⟨s7', sW, sbad⟩ := okW s (List.mem_of_getElem? hs)
        have lxs : Lx (Txt.join " " s) := lx_words sW s7'
        generalize Txt.join " " s = wr at sbad lxs
        have hla := F.keep _ _ rlp hlC nofun
        dsimp only [gName]
        refine seq_asg ?_
        refine Ez.run (F := fun _ => False) (Pv := fun σ => σ = [some (.ref a), some (.int (0 + (i : Int))), some (.ref p), some (.ref kl), some (.ref ml), some (.ref rl), some (.ref nl), w7, some (.int (an : Int)), some (.str wr), w10, w11]) (Ph := fun H' => H' rl = some (.lst (L.map V.str))) (w := cutS L none (some (an : Int)) ++ [wr] ++ cutS L (some ((an : Int) + 1)) none) ?_ rfl hla fun sl Hd sd frs hsl => ?_
        · have S1 : Stb (fun H' : Hp => H' rl = some (.lst (L.map V.str))) := fun _ _ s h => s _ _ h
          have c1 := cutS_le L none (some (an : Int))
          have c2 := cutS_le L (some ((an : Int) + 1)) none
          refine e0_cat S1 (e0_cat S1 (e0_cut (i := 5) (l := rl) (w := L) (fun σ e => by rw [e] <;> rfl) (fun H' h => h) (fun _ _ _ _ => to_none) (fun σ H Q e q => ⟨_, (by rw [e] <;> rfl), _, rfl, q⟩)) (fun σ H Q e _ q => ⟨_, (by rw [e] <;> rfl), rfl, fun p H1 s1 n1 h1 => q p H1 s1 (.inl n1) h1⟩) (by show _ + 1 ≤ 1000; omega)) (e0_cut (i := 5) (l := rl) (w := L) (fun σ e => by rw [e] <;> rfl) (fun H' h => h) (fun σ H Q e q => ⟨_, (by rw [e] <;> rfl), _, _, rfl, rfl, _, rfl, q⟩) (fun _ _ _ _ => to_none)) (by rw [List.length_append]; show _ + 1 + _ ≤ 1000; omega)
        have ec : ((an : Int) + 1) = ((an + 1 : Nat) : Int) := by omega
        rw [cut_takeS, ec, cut_dropS L (by omega)] at hsl
        obtain ⟨M, eM⟩ : ∃ M, L.take an ++ [wr] ++ L.drop (an + 1) = M := ⟨_, rfl⟩
        rw [eM] at hsl
        have l1 : (L.take an ++ [wr]).length = an + 1 := by rw [List.length_append, List.length_take, Nat.min_eq_left (by omega)] <;> rfl
        have lM : M.length = L.length := by
          rw [← eM, List.length_append, l1, List.length_drop]
          omega
        have lta : (L.take an).length = an := by rw [List.length_take, Nat.min_eq_left (by omega)]
        have Man : M[an]? = some wr := by
          rw [← eM, List.getElem?_append_left (by rw [l1]; omega), List.getElem?_append_right (by rw [lta]; exact Nat.le_refl _), lta, Nat.sub_self] <;> rfl
        have Mtk : M.take an = L.take an := by
          rw [← eM, List.append_assoc, List.take_left' lta]
        have lxM : ∀ y ∈ M, Lx y := by
          rw [← eM]
          exact all_app (all_app (fun y hy => lxL y (List.mem_of_mem_take hy)) (all_cons lxs nofun)) (fun y hy => lxL y (List.mem_of_mem_drop hy))
        have rdM := read_at G eL Man Mtk (by omega) lxM sbad
        have bdM := bdOf lxM (by omega)
        have lnM := len_lx lxM (by omega)
        have Fd : Fs p HC Hd := F.trans (.sm (.of sd))
        have Bd := Bx.same sd
        have slp : sl ≠ p := fun z => by
          obtain ⟨x0, y0, z0', hb, _⟩ := Bd
          rw [← z, hsl] at hb
          cases M with
          | nil => simp at lM; omega
          | cons y r => cases hb
        dsimp only [gName]
        refine seq_if ⟨⟨_, rfl⟩, _, rfl, "\n", sl, M, rfl, rfl, .inl (SqL.of hsl), bdM, _, rfl, lnM, tbs Fd, fun m' em' He se => ?_, fun st em' => (by rw [rdM] at em'; cases em')⟩
        rw [rdM] at em'
        cases em'
        refine ⟨_, rfl, .int an, .int an, .int _, .int _, rfl, rfl, ?_⟩
        rw [SeqAt.eqv_refl _ rfl]
        refine ⟨_, rfl, iteF ?_⟩
        have Fe : Fs p HC He := Fd.trans (.sm se)
        refine ⟨⟨_, rfl⟩, _, rfl, "\n", sl, M, rfl, rfl, .inl (SqL.of (se.lst hsl)), bdM, _, rfl, lnM, tbs Fe, fun Hf sf => ⟨true, rfl, iteF ?_⟩⟩
        have Ff : Fs p HC Hf := Fe.trans (.sm sf)
        have Bf : BoxAt Hf p k := by
          obtain ⟨x0, y0, z0', hb, r⟩ := Bd
          exact ⟨x0, y0, z0', sf.lst (se.lst hb), r⟩
        have hslf := sf.lst (se.lst hsl)
        have hlf := Ff.keep _ _ rlp hlC nofun
        refine ⟨_, rfl, _, rfl, rl, _, rfl, .inl (SqL.of hlf), p, (L.length : Int), k, ?_, Bf, ?_, by omega, by omega, fun ot Hg u0 u1 Bg Fg => ?_⟩
        · rw [List.length_map] <;> rfl
        · omega
        obtain ⟨on, rfl⟩ : ∃ on : Nat, ot = (on : Int) := ⟨ot.toNat, by omega⟩
        have hslg := Fg _ _ slp hslf
        refine ⟨_, rfl, _, rfl, sl, _, (on : Int), on, rfl, rfl, hslg, ixN_at15 (by rw [List.length_map]; omega), ?_⟩
        have eS : (M.map V.str).set on (.str "x") = (M.set on "x").map V.str := by rw [List.map_set]
        rw [eS]
        have nsl : Ha sl = none := frs.elim id False.elim
        have Fg' : Fs p HC Hg := Ff.trans (.of Fg)
        have Fh : Fs p HC (upd Hg sl (.lst ((M.set on "x").map V.str))) := Fs.putF F nsl Fg' hslg
        have Bh : BoxAt (upd Hg sl (.lst ((M.set on "x").map V.str))) p (k + 1) := Bg.upd slp
        have hslh : (upd Hg sl (.lst ((M.set on "x").map V.str))) sl = some (.lst ((M.set on "x").map V.str)) := upd_same
        generalize upd Hg sl (.lst ((M.set on "x").map V.str)) = Hh at Fh Bh hslh
        have onM : on < M.length := by omega
        have lxM2 : ∀ y ∈ M.set on "x", Lx y := fun y hy => (List.mem_or_eq_of_mem_set hy).elim (lxM y) fun e => by rw [e]; exact lx_x
        have lM2 : (M.set on "x").length = L.length := by rw [List.length_set, lM]
        obtain ⟨kk, ekk, rd2⟩ : ∃ kk : Nat, (if (on : Int) < (an : Int) then (on : Int) else (an : Int)) = (kk : Int) ∧ readP (Txt.join "\n" (M.set on "x")) = .inl kk := by
          by_cases c : on < an
          · refine ⟨on, if_pos (by omega), ?_⟩
            refine read_at (L := L) (w := "x") G eL (by rw [List.getElem?_set_self onM]) ?_ (by omega) lxM2 (by rw [line_x]; exact step_bad rfl rfl)
            rw [List.take_set_of_le (Nat.le_refl _)]
            have := congrArg (fun l => l.take on) Mtk
            simp only [List.take_take] at this
            rw [Nat.min_eq_left (by omega)] at this
            exact this
          · refine ⟨an, if_neg (by omega), ?_⟩
            have tk2 : (M.set on "x").take an = L.take an := by rw [List.take_set_of_le (by omega), Mtk]
            by_cases e : on = an
            · subst e
              exact read_at (L := L) (w := "x") G eL (by rw [List.getElem?_set_self onM]) tk2 (by omega) lxM2 (by rw [line_x]; exact step_bad rfl rfl)
            · exact read_at (L := L) (w := wr) G eL (by rw [List.getElem?_set_ne e]; exact Man) tk2 (by omega) lxM2 sbad
        have bd2 := bdOf lxM2 (by omega)
        have ln2 := len_lx lxM2 (by omega)
        generalize M.set on "x" = M2 at hslh lxM2 lM2 rd2 bd2 ln2
        refine ⟨⟨_, rfl⟩, _, rfl, "\n", sl, M2, rfl, rfl, .inl (SqL.of hslh), bd2, _, rfl, ln2, tbs Fh, fun m' em' Hi si => ?_, fun st em' => (by rw [rd2] at em'; cases em')⟩
        rw [rd2] at em'
        cases em'
        refine ⟨_, rfl, _, rfl, _, _, rfl, .int kk, .int kk, .int _, by rw [ekk]; exact .int _, rfl, rfl, ?_⟩
        rw [SeqAt.eqv_refl _ rfl]
        refine ⟨_, rfl, iteF ?_⟩
        exact ⟨_, _, _, _, k + 1, rfl, Fh.trans (.sm si), Bh.sm si, by omega⟩
      · rintro σ HL ⟨w7, w9, w10, w11, k, rfl, F, Bx, hk⟩
        have hl := F.keep _ _ rlp hlC nofun
        refine ⟨⟨_, rfl⟩, _, rfl, "\n", rl, L, rfl, rfl, .inl (SqL.of hl), bdOf lxL (by omega), _, rfl, len_lx lxL (by omega), tbs F, fun Hm sm' => ⟨true, rfl, iteF ?_⟩⟩
        have F5m : Fs p H5 Hm := (Fs.of (Fr.of s58)).trans ((Fs.of F9).trans ((Fs.of (Fr.of s9C)).trans (F.trans (.sm sm'))))
        obtain ⟨x0, y0, z0', hbx, _⟩ := id B5
        have klp : kl ≠ p := fun z => by
          rw [← z, hkl] at hbx
          have e := HO.lst.inj (Option.some.inj hbx)
          obtain ⟨_, _, _, _, _, _, _, _, _, _, e2, _⟩ := AK.get (i := 0) (v := .int x0) (by rw [e] <;> rfl)
          cases e2
        have mlp : ml ≠ p := fun z => by
          rw [← z, hml] at hbx
          have e := HO.lst.inj (Option.some.inj hbx)
          obtain ⟨_, _, _, _, _, _, _, _, _, e2, _⟩ := AM.get (i := 0) (v := .int x0) (by rw [e] <;> rfl)
          cases e2
        have tk : TK K H5 Hm := TK.fs (p := p) (fun xs e => by rw [hbx] at e; cases e) (fun b y e => by rw [hbx] at e; cases e) F5m
        refine ⟨_, rfl, _, rfl, kl, ml, ks, ms, nn, nt, ds, es, rfl, SqL.of (F5m.keep _ _ klp hkl nofun), AK.map fun _ _ _ z => z.tk tk, SqL.of (F5m.keep _ _ mlp hml nofun), AM.map fun _ _ _ z => z.tk tk, by omega, by omega, by omega, nd, noq, tbs (F.trans (.sm sm')), fun Hn sn => ⟨true, rfl, iteF ?_⟩⟩
        exact ⟨_, _, _, _, _, _, _, _, _, _, _, rfl, sm.trans (sm_new_fs15 s2 n2 ((Fs.of FC).trans (F.trans ((Fs.sm sm').trans (.sm sn)))))⟩
    · rintro σ H' ⟨v1, v2, v3, v4, v5, v6, v7, v8, v9, v10, v11, rfl, sm⟩
      exact q H'

end
end KR
namespace KR
open PySem PySem.Spec PyProof.Rows L2
theorem all_mk {l : PySem.W.OpenLaw} {w : World} {K : PySem.W.Frag} {h : Heap} {mg : Str → Option Value} {fa : Addr} (X : K.In h) (G : h.Ns mainGlobals mg) (hfa : mg "law" = some (.ref fa))
    {C_Row : Addr} (g_Row : PySem.W.nsIn K mainGlobals "Row" = some (some (.ref C_Row))) (pg_Row : PySem.W.plainGet K C_Row Str.empty = true) (hd_Row : PySem.W.hasDictIn K C_Row = true) (po_Row : PySem.W.plainOver K C_Row = true) (sa_Row : PySem.W.findIn K (.ref C_Row) "__setattr__" = some (some (.builtin "object.__setattr__"))) (mk_Row : PySem.W.makesIn K C_Row = true) (kc_Row : PySem.W.keepIn K (.ref C_Row) = true)
    (nf_Row_kettles : PySem.W.findIn K (.ref C_Row) "kettles" = some none)
    (nf_Row_moulds : PySem.W.findIn K (.ref C_Row) "moulds" = some none)
    {od0 an0 : Option Addr} {sl0 : Array (Option Value)} {oc0 kV0 dc0 pm0 cd0 ct0 : Value} {f0 : Addr}
    (a0 : PySem.W.findIn K (.ref C_Row) "__init__" = some (some (.ref f0))) (l0 : K.lookup f0 = some ⟨oc0, od0, .func (PySem.W.fnOf "__init__" "Row.__init__" (defArgs s_Row_init) (defBody s_Row_init) (defScope s_Row_init) .none kV0 dc0 pm0 an0 cd0 ct0), sl0⟩) (c0 : PySem.W.codeIn K cd0 "Row.__init__" = true) (k0 : PySem.W.keepIn K (.ref f0) = true) (i0 : PySem.W.isFn K (.ref f0) = true)
    {od1 an1 : Option Addr} {sl1 : Array (Option Value)} {oc1 kV1 dc1 pm1 cd1 ct1 : Value} {f1 : Addr}
    (a1 : PySem.W.nsIn K mainGlobals "is_number" = some (some (.ref f1))) (l1 : K.lookup f1 = some ⟨oc1, od1, .func (PySem.W.fnOf "is_number" "is_number" (defArgs s_p_is_number) (defBody s_p_is_number) (defScope s_p_is_number) .none kV1 dc1 pm1 an1 cd1 ct1), sl1⟩) (c1 : PySem.W.codeIn K cd1 "is_number" = true) (k1 : PySem.W.keepIn K (.ref f1) = true)
    {od2 an2 : Option Addr} {sl2 : Array (Option Value)} {oc2 kV2 dc2 pm2 cd2 ct2 : Value} {f2 : Addr}
    (a2 : PySem.W.nsIn K mainGlobals "is_number_within" = some (some (.ref f2))) (l2 : K.lookup f2 = some ⟨oc2, od2, .func (PySem.W.fnOf "is_number_within" "is_number_within" (defArgs s_p_is_number_within) (defBody s_p_is_number_within) (defScope s_p_is_number_within) .none kV2 dc2 pm2 an2 cd2 ct2), sl2⟩) (c2 : PySem.W.codeIn K cd2 "is_number_within" = true) (k2 : PySem.W.keepIn K (.ref f2) = true)
    {od3 an3 : Option Addr} {sl3 : Array (Option Value)} {oc3 kV3 dc3 pm3 cd3 ct3 : Value} {f3 : Addr}
    (a3 : PySem.W.nsIn K mainGlobals "figures_of" = some (some (.ref f3))) (l3 : K.lookup f3 = some ⟨oc3, od3, .func (PySem.W.fnOf "figures_of" "figures_of" (defArgs s_p_figures_of) (defBody s_p_figures_of) (defScope s_p_figures_of) .none kV3 dc3 pm3 an3 cd3 ct3), sl3⟩) (c3 : PySem.W.codeIn K cd3 "figures_of" = true) (k3 : PySem.W.keepIn K (.ref f3) = true)
    {od4 an4 : Option Addr} {sl4 : Array (Option Value)} {oc4 kV4 dc4 pm4 cd4 ct4 : Value} {f4 : Addr}
    (a4 : PySem.W.nsIn K mainGlobals "are_figures" = some (some (.ref f4))) (l4 : K.lookup f4 = some ⟨oc4, od4, .func (PySem.W.fnOf "are_figures" "are_figures" (defArgs s_p_are_figures) (defBody s_p_are_figures) (defScope s_p_are_figures) .none kV4 dc4 pm4 an4 cd4 ct4), sl4⟩) (c4 : PySem.W.codeIn K cd4 "are_figures" = true) (k4 : PySem.W.keepIn K (.ref f4) = true)
    {od5 an5 : Option Addr} {sl5 : Array (Option Value)} {oc5 kV5 dc5 pm5 cd5 ct5 : Value} {f5 : Addr}
    (a5 : PySem.W.nsIn K mainGlobals "number_in" = some (some (.ref f5))) (l5 : K.lookup f5 = some ⟨oc5, od5, .func (PySem.W.fnOf "number_in" "number_in" (defArgs s_p_number_in) (defBody s_p_number_in) (defScope s_p_number_in) .none kV5 dc5 pm5 an5 cd5 ct5), sl5⟩) (c5 : PySem.W.codeIn K cd5 "number_in" = true) (k5 : PySem.W.keepIn K (.ref f5) = true)
    {od6 an6 : Option Addr} {sl6 : Array (Option Value)} {oc6 kV6 dc6 pm6 cd6 ct6 : Value} {f6 : Addr}
    (a6 : PySem.W.nsIn K mainGlobals "is_frac" = some (some (.ref f6))) (l6 : K.lookup f6 = some ⟨oc6, od6, .func (PySem.W.fnOf "is_frac" "is_frac" (defArgs s_p_is_frac) (defBody s_p_is_frac) (defScope s_p_is_frac) .none kV6 dc6 pm6 an6 cd6 ct6), sl6⟩) (c6 : PySem.W.codeIn K cd6 "is_frac" = true) (k6 : PySem.W.keepIn K (.ref f6) = true)
    {od7 an7 : Option Addr} {sl7 : Array (Option Value)} {oc7 kV7 dc7 pm7 cd7 ct7 : Value} {f7 : Addr}
    (a7 : PySem.W.nsIn K mainGlobals "frac_text" = some (some (.ref f7))) (l7 : K.lookup f7 = some ⟨oc7, od7, .func (PySem.W.fnOf "frac_text" "frac_text" (defArgs s_p_frac_text) (defBody s_p_frac_text) (defScope s_p_frac_text) .none kV7 dc7 pm7 an7 cd7 ct7), sl7⟩) (c7 : PySem.W.codeIn K cd7 "frac_text" = true) (k7 : PySem.W.keepIn K (.ref f7) = true)
    {od8 an8 : Option Addr} {sl8 : Array (Option Value)} {oc8 kV8 dc8 pm8 cd8 ct8 : Value} {f8 : Addr}
    (a8 : PySem.W.nsIn K mainGlobals "frac_in" = some (some (.ref f8))) (l8 : K.lookup f8 = some ⟨oc8, od8, .func (PySem.W.fnOf "frac_in" "frac_in" (defArgs s_p_frac_in) (defBody s_p_frac_in) (defScope s_p_frac_in) .none kV8 dc8 pm8 an8 cd8 ct8), sl8⟩) (c8 : PySem.W.codeIn K cd8 "frac_in" = true) (k8 : PySem.W.keepIn K (.ref f8) = true)
    {od9 an9 : Option Addr} {sl9 : Array (Option Value)} {oc9 kV9 dc9 pm9 cd9 ct9 : Value} {f9 : Addr}
    (a9 : PySem.W.nsIn K mainGlobals "frac_or_none" = some (some (.ref f9))) (l9 : K.lookup f9 = some ⟨oc9, od9, .func (PySem.W.fnOf "frac_or_none" "frac_or_none" (defArgs s_p_frac_or_none) (defBody s_p_frac_or_none) (defScope s_p_frac_or_none) .none kV9 dc9 pm9 an9 cd9 ct9), sl9⟩) (c9 : PySem.W.codeIn K cd9 "frac_or_none" = true) (k9 : PySem.W.keepIn K (.ref f9) = true)
    {od10 an10 : Option Addr} {sl10 : Array (Option Value)} {oc10 kV10 dc10 pm10 cd10 ct10 : Value} {f10 : Addr}
    (a10 : PySem.W.nsIn K mainGlobals "_read" = some (some (.ref f10))) (l10 : K.lookup f10 = some ⟨oc10, od10, .func (PySem.W.fnOf "_read" "_read" (defArgs s_p__read) (defBody s_p__read) (defScope s_p__read) .none kV10 dc10 pm10 an10 cd10 ct10), sl10⟩) (c10 : PySem.W.codeIn K cd10 "_read" = true) (k10 : PySem.W.keepIn K (.ref f10) = true)
    {od11 an11 : Option Addr} {sl11 : Array (Option Value)} {oc11 kV11 dc11 pm11 ct11 : Value} {f11 C11 P11 : Addr}
    (a11 : PySem.W.nsIn K mainGlobals "is_name" = some (some (.ref f11))) (l11 : K.lookup f11 = some ⟨oc11, od11, .func (PySem.W.fnOf "is_name" "is_name" (defArgs s_p_is_name) (defBody s_p_is_name) (defScope s_p_is_name) .none kV11 dc11 pm11 an11 (.ref C11) ct11), sl11⟩) (c11 : PySem.W.codeIn K (.ref C11) "is_name" = true) (k11 : PySem.W.keepIn K (.ref f11) = true)
    {te11 : Value} {td11 : Option Addr} {tv11 : Array Value} {ts11 : Array (Option Value)} (q11 : K.lookup C11 = some ⟨te11, td11, .fields tv11, ts11⟩) (p11 : tv11[11]? = some (.ref P11)) (n11 : K.lookup P11 = none)
    {od12 an12 : Option Addr} {sl12 : Array (Option Value)} {oc12 kV12 dc12 pm12 cd12 ct12 : Value} {f12 : Addr}
    (a12 : PySem.W.nsIn K mainGlobals "are_unlike" = some (some (.ref f12))) (l12 : K.lookup f12 = some ⟨oc12, od12, .func (PySem.W.fnOf "are_unlike" "are_unlike" (defArgs s_p_are_unlike) (defBody s_p_are_unlike) (defScope s_p_are_unlike) .none kV12 dc12 pm12 an12 cd12 ct12), sl12⟩) (c12 : PySem.W.codeIn K cd12 "are_unlike" = true) (k12 : PySem.W.keepIn K (.ref f12) = true)
    {od13 an13 : Option Addr} {sl13 : Array (Option Value)} {oc13 kV13 dc13 pm13 cd13 ct13 : Value} {f13 : Addr}
    (a13 : PySem.W.nsIn K mainGlobals "is_kettle" = some (some (.ref f13))) (l13 : K.lookup f13 = some ⟨oc13, od13, .func (PySem.W.fnOf "is_kettle" "is_kettle" (defArgs s_p_is_kettle) (defBody s_p_is_kettle) (defScope s_p_is_kettle) .none kV13 dc13 pm13 an13 cd13 ct13), sl13⟩) (c13 : PySem.W.codeIn K cd13 "is_kettle" = true) (k13 : PySem.W.keepIn K (.ref f13) = true)
    {od14 an14 : Option Addr} {sl14 : Array (Option Value)} {oc14 kV14 dc14 pm14 cd14 ct14 : Value} {f14 : Addr}
    (a14 : PySem.W.nsIn K mainGlobals "is_mould" = some (some (.ref f14))) (l14 : K.lookup f14 = some ⟨oc14, od14, .func (PySem.W.fnOf "is_mould" "is_mould" (defArgs s_p_is_mould) (defBody s_p_is_mould) (defScope s_p_is_mould) .none kV14 dc14 pm14 an14 cd14 ct14), sl14⟩) (c14 : PySem.W.codeIn K cd14 "is_mould" = true) (k14 : PySem.W.keepIn K (.ref f14) = true)
    {od15 an15 : Option Addr} {sl15 : Array (Option Value)} {oc15 kV15 dc15 pm15 ct15 : Value} {f15 C15 P15 : Addr}
    (a15 : PySem.W.nsIn K mainGlobals "_can_be_kettles" = some (some (.ref f15))) (l15 : K.lookup f15 = some ⟨oc15, od15, .func (PySem.W.fnOf "_can_be_kettles" "_can_be_kettles" (defArgs s_p__can_be_kettles) (defBody s_p__can_be_kettles) (defScope s_p__can_be_kettles) .none kV15 dc15 pm15 an15 (.ref C15) ct15), sl15⟩) (c15 : PySem.W.codeIn K (.ref C15) "_can_be_kettles" = true) (k15 : PySem.W.keepIn K (.ref f15) = true)
    {te15 : Value} {td15 : Option Addr} {tv15 : Array Value} {ts15 : Array (Option Value)} (q15 : K.lookup C15 = some ⟨te15, td15, .fields tv15, ts15⟩) (p15 : tv15[11]? = some (.ref P15)) (n15 : K.lookup P15 = none)
    {od16 an16 : Option Addr} {sl16 : Array (Option Value)} {oc16 kV16 dc16 pm16 ct16 : Value} {f16 C16 P16 : Addr}
    (a16 : PySem.W.nsIn K mainGlobals "_can_be_moulds" = some (some (.ref f16))) (l16 : K.lookup f16 = some ⟨oc16, od16, .func (PySem.W.fnOf "_can_be_moulds" "_can_be_moulds" (defArgs s_p__can_be_moulds) (defBody s_p__can_be_moulds) (defScope s_p__can_be_moulds) .none kV16 dc16 pm16 an16 (.ref C16) ct16), sl16⟩) (c16 : PySem.W.codeIn K (.ref C16) "_can_be_moulds" = true) (k16 : PySem.W.keepIn K (.ref f16) = true)
    {te16 : Value} {td16 : Option Addr} {tv16 : Array Value} {ts16 : Array (Option Value)} (q16 : K.lookup C16 = some ⟨te16, td16, .fields tv16, ts16⟩) (p16 : tv16[11]? = some (.ref P16)) (n16 : K.lookup P16 = none)
    {od17 an17 : Option Addr} {sl17 : Array (Option Value)} {oc17 kV17 dc17 pm17 cd17 ct17 : Value} {f17 : Addr}
    (a17 : PySem.W.nsIn K mainGlobals "_are_name_and_room" = some (some (.ref f17))) (l17 : K.lookup f17 = some ⟨oc17, od17, .func (PySem.W.fnOf "_are_name_and_room" "_are_name_and_room" (defArgs s_p__are_name_and_room) (defBody s_p__are_name_and_room) (defScope s_p__are_name_and_room) .none kV17 dc17 pm17 an17 cd17 ct17), sl17⟩) (c17 : PySem.W.codeIn K cd17 "_are_name_and_room" = true) (k17 : PySem.W.keepIn K (.ref f17) = true)
    {od18 an18 : Option Addr} {sl18 : Array (Option Value)} {oc18 kV18 dc18 pm18 cd18 ct18 : Value} {f18 : Addr}
    (a18 : PySem.W.nsIn K mainGlobals "_is_mark" = some (some (.ref f18))) (l18 : K.lookup f18 = some ⟨oc18, od18, .func (PySem.W.fnOf "_is_mark" "_is_mark" (defArgs s_p__is_mark) (defBody s_p__is_mark) (defScope s_p__is_mark) .none kV18 dc18 pm18 an18 cd18 ct18), sl18⟩) (c18 : PySem.W.codeIn K cd18 "_is_mark" = true) (k18 : PySem.W.keepIn K (.ref f18) = true)
    {od19 an19 : Option Addr} {sl19 : Array (Option Value)} {oc19 kV19 dc19 pm19 cd19 ct19 : Value} {f19 : Addr}
    (a19 : PySem.W.nsIn K mainGlobals "_is_drip" = some (some (.ref f19))) (l19 : K.lookup f19 = some ⟨oc19, od19, .func (PySem.W.fnOf "_is_drip" "_is_drip" (defArgs s_p__is_drip) (defBody s_p__is_drip) (defScope s_p__is_drip) .none kV19 dc19 pm19 an19 cd19 ct19), sl19⟩) (c19 : PySem.W.codeIn K cd19 "_is_drip" = true) (k19 : PySem.W.keepIn K (.ref f19) = true)
    {od20 an20 : Option Addr} {sl20 : Array (Option Value)} {oc20 kV20 dc20 pm20 cd20 ct20 : Value} {f20 : Addr}
    (a20 : PySem.W.nsIn K mainGlobals "row_from" = some (some (.ref f20))) (l20 : K.lookup f20 = some ⟨oc20, od20, .func (PySem.W.fnOf "row_from" "row_from" (defArgs s_p_row_from) (defBody s_p_row_from) (defScope s_p_row_from) .none kV20 dc20 pm20 an20 cd20 ct20), sl20⟩) (c20 : PySem.W.codeIn K cd20 "row_from" = true) (k20 : PySem.W.keepIn K (.ref f20) = true)
    {od21 an21 : Option Addr} {sl21 : Array (Option Value)} {oc21 kV21 dc21 pm21 cd21 ct21 : Value} {f21 : Addr}
    (a21 : PySem.W.nsIn K mainGlobals "_thing_in" = some (some (.ref f21))) (l21 : K.lookup f21 = some ⟨oc21, od21, .func (PySem.W.fnOf "_thing_in" "_thing_in" (defArgs s_p__thing_in) (defBody s_p__thing_in) (defScope s_p__thing_in) .none kV21 dc21 pm21 an21 cd21 ct21), sl21⟩) (c21 : PySem.W.codeIn K cd21 "_thing_in" = true) (k21 : PySem.W.keepIn K (.ref f21) = true)
    {od22 an22 : Option Addr} {sl22 : Array (Option Value)} {oc22 kV22 dc22 pm22 cd22 ct22 : Value} {f22 : Addr}
    (a22 : PySem.W.nsIn K mainGlobals "_can_stand" = some (some (.ref f22))) (l22 : K.lookup f22 = some ⟨oc22, od22, .func (PySem.W.fnOf "_can_stand" "_can_stand" (defArgs s_p__can_stand) (defBody s_p__can_stand) (defScope s_p__can_stand) .none kV22 dc22 pm22 an22 cd22 ct22), sl22⟩) (c22 : PySem.W.codeIn K cd22 "_can_stand" = true) (k22 : PySem.W.keepIn K (.ref f22) = true)
    {od23 an23 : Option Addr} {sl23 : Array (Option Value)} {oc23 kV23 dc23 pm23 cd23 ct23 : Value} {f23 : Addr}
    (a23 : PySem.W.nsIn K mainGlobals "_law_cell_at" = some (some (.ref f23))) (l23 : K.lookup f23 = some ⟨oc23, od23, .func (PySem.W.fnOf "_law_cell_at" "_law_cell_at" (defArgs s_l_cell_at) (defBody s_l_cell_at) (defScope s_l_cell_at) .none kV23 dc23 pm23 an23 cd23 ct23), sl23⟩) (c23 : PySem.W.codeIn K cd23 "_law_cell_at" = true) (k23 : PySem.W.keepIn K (.ref f23) = true)
    {od24 an24 : Option Addr} {sl24 : Array (Option Value)} {oc24 kV24 dc24 pm24 cd24 ct24 : Value} {f24 : Addr}
    (a24 : PySem.W.nsIn K mainGlobals "_law_box" = some (some (.ref f24))) (l24 : K.lookup f24 = some ⟨oc24, od24, .func (PySem.W.fnOf "_law_box" "_law_box" (defArgs s_l_box) (defBody s_l_box) (defScope s_l_box) .none kV24 dc24 pm24 an24 cd24 ct24), sl24⟩) (c24 : PySem.W.codeIn K cd24 "_law_box" = true) (k24 : PySem.W.keepIn K (.ref f24) = true)
    {od25 an25 : Option Addr} {sl25 : Array (Option Value)} {oc25 kV25 dc25 pm25 cd25 ct25 : Value} {f25 : Addr}
    (a25 : PySem.W.nsIn K mainGlobals "_law_take" = some (some (.ref f25))) (l25 : K.lookup f25 = some ⟨oc25, od25, .func (PySem.W.fnOf "_law_take" "_law_take" (defArgs s_l_take) (defBody s_l_take) (defScope s_l_take) .none kV25 dc25 pm25 an25 cd25 ct25), sl25⟩) (c25 : PySem.W.codeIn K cd25 "_law_take" = true) (k25 : PySem.W.keepIn K (.ref f25) = true)
    {od26 an26 : Option Addr} {sl26 : Array (Option Value)} {oc26 kV26 dc26 pm26 cd26 ct26 : Value} {f26 : Addr}
    (a26 : PySem.W.nsIn K mainGlobals "_law_same" = some (some (.ref f26))) (l26 : K.lookup f26 = some ⟨oc26, od26, .func (PySem.W.fnOf "_law_same" "_law_same" (defArgs s_l_same) (defBody s_l_same) (defScope s_l_same) .none kV26 dc26 pm26 an26 cd26 ct26), sl26⟩) (c26 : PySem.W.codeIn K cd26 "_law_same" = true) (k26 : PySem.W.keepIn K (.ref f26) = true)
    {od27 an27 : Option Addr} {sl27 : Array (Option Value)} {oc27 kV27 dc27 pm27 cd27 ct27 : Value} {f27 : Addr}
    (a27 : PySem.W.nsIn K mainGlobals "_law_names" = some (some (.ref f27))) (l27 : K.lookup f27 = some ⟨oc27, od27, .func (PySem.W.fnOf "_law_names" "_law_names" (defArgs s_l_names) (defBody s_l_names) (defScope s_l_names) .none kV27 dc27 pm27 an27 cd27 ct27), sl27⟩) (c27 : PySem.W.codeIn K cd27 "_law_names" = true) (k27 : PySem.W.keepIn K (.ref f27) = true)
    {od28 an28 : Option Addr} {sl28 : Array (Option Value)} {oc28 kV28 dc28 pm28 cd28 ct28 : Value} {f28 : Addr}
    (a28 : PySem.W.nsIn K mainGlobals "_law_low" = some (some (.ref f28))) (l28 : K.lookup f28 = some ⟨oc28, od28, .func (PySem.W.fnOf "_law_low" "_law_low" (defArgs s_l_low) (defBody s_l_low) (defScope s_l_low) .none kV28 dc28 pm28 an28 cd28 ct28), sl28⟩) (c28 : PySem.W.codeIn K cd28 "_law_low" = true) (k28 : PySem.W.keepIn K (.ref f28) = true)
    {od29 an29 : Option Addr} {sl29 : Array (Option Value)} {oc29 kV29 dc29 pm29 cd29 ct29 : Value} {f29 : Addr}
    (a29 : PySem.W.nsIn K mainGlobals "_law_room" = some (some (.ref f29))) (l29 : K.lookup f29 = some ⟨oc29, od29, .func (PySem.W.fnOf "_law_room" "_law_room" (defArgs s_l_room) (defBody s_l_room) (defScope s_l_room) .none kV29 dc29 pm29 an29 cd29 ct29), sl29⟩) (c29 : PySem.W.codeIn K cd29 "_law_room" = true) (k29 : PySem.W.keepIn K (.ref f29) = true)
    {od30 an30 : Option Addr} {sl30 : Array (Option Value)} {oc30 kV30 dc30 pm30 cd30 ct30 : Value} {f30 : Addr}
    (a30 : PySem.W.nsIn K mainGlobals "_law_kettle" = some (some (.ref f30))) (l30 : K.lookup f30 = some ⟨oc30, od30, .func (PySem.W.fnOf "_law_kettle" "_law_kettle" (defArgs s_l_kettle) (defBody s_l_kettle) (defScope s_l_kettle) .none kV30 dc30 pm30 an30 cd30 ct30), sl30⟩) (c30 : PySem.W.codeIn K cd30 "_law_kettle" = true) (k30 : PySem.W.keepIn K (.ref f30) = true)
    {od31 an31 : Option Addr} {sl31 : Array (Option Value)} {oc31 kV31 dc31 pm31 cd31 ct31 : Value} {f31 : Addr}
    (a31 : PySem.W.nsIn K mainGlobals "_law_mould" = some (some (.ref f31))) (l31 : K.lookup f31 = some ⟨oc31, od31, .func (PySem.W.fnOf "_law_mould" "_law_mould" (defArgs s_l_mould) (defBody s_l_mould) (defScope s_l_mould) .none kV31 dc31 pm31 an31 cd31 ct31), sl31⟩) (c31 : PySem.W.codeIn K cd31 "_law_mould" = true) (k31 : PySem.W.keepIn K (.ref f31) = true)
    {od32 an32 : Option Addr} {sl32 : Array (Option Value)} {oc32 kV32 dc32 pm32 cd32 ct32 : Value} {f32 : Addr}
    (a32 : PySem.W.nsIn K mainGlobals "_law_row" = some (some (.ref f32))) (l32 : K.lookup f32 = some ⟨oc32, od32, .func (PySem.W.fnOf "_law_row" "_law_row" (defArgs s_l_row) (defBody s_l_row) (defScope s_l_row) .none kV32 dc32 pm32 an32 cd32 ct32), sl32⟩) (c32 : PySem.W.codeIn K cd32 "_law_row" = true) (k32 : PySem.W.keepIn K (.ref f32) = true)
    {od33 an33 : Option Addr} {sl33 : Array (Option Value)} {oc33 kV33 dc33 pm33 cd33 ct33 : Value} {f33 : Addr}
    (a33 : PySem.W.nsIn K mainGlobals "_law_is_name" = some (some (.ref f33))) (l33 : K.lookup f33 = some ⟨oc33, od33, .func (PySem.W.fnOf "_law_is_name" "_law_is_name" (defArgs s_l_is_name) (defBody s_l_is_name) (defScope s_l_is_name) .none kV33 dc33 pm33 an33 cd33 ct33), sl33⟩) (c33 : PySem.W.codeIn K cd33 "_law_is_name" = true) (k33 : PySem.W.keepIn K (.ref f33) = true)
    {od34 an34 : Option Addr} {sl34 : Array (Option Value)} {oc34 kV34 dc34 pm34 cd34 ct34 : Value} {f34 : Addr}
    (a34 : PySem.W.nsIn K mainGlobals "_law_is_number" = some (some (.ref f34))) (l34 : K.lookup f34 = some ⟨oc34, od34, .func (PySem.W.fnOf "_law_is_number" "_law_is_number" (defArgs s_l_is_number) (defBody s_l_is_number) (defScope s_l_is_number) .none kV34 dc34 pm34 an34 cd34 ct34), sl34⟩) (c34 : PySem.W.codeIn K cd34 "_law_is_number" = true) (k34 : PySem.W.keepIn K (.ref f34) = true)
    {od35 an35 : Option Addr} {sl35 : Array (Option Value)} {oc35 kV35 dc35 pm35 cd35 ct35 : Value} {f35 : Addr}
    (a35 : PySem.W.nsIn K mainGlobals "_law_is_frac" = some (some (.ref f35))) (l35 : K.lookup f35 = some ⟨oc35, od35, .func (PySem.W.fnOf "_law_is_frac" "_law_is_frac" (defArgs s_l_is_frac) (defBody s_l_is_frac) (defScope s_l_is_frac) .none kV35 dc35 pm35 an35 cd35 ct35), sl35⟩) (c35 : PySem.W.codeIn K cd35 "_law_is_frac" = true) (k35 : PySem.W.keepIn K (.ref f35) = true)
    {od36 an36 : Option Addr} {sl36 : Array (Option Value)} {oc36 kV36 dc36 pm36 cd36 ct36 : Value} {f36 : Addr}
    (a36 : PySem.W.nsIn K mainGlobals "_law_is_pot" = some (some (.ref f36))) (l36 : K.lookup f36 = some ⟨oc36, od36, .func (PySem.W.fnOf "_law_is_pot" "_law_is_pot" (defArgs s_l_is_pot) (defBody s_l_is_pot) (defScope s_l_is_pot) .none kV36 dc36 pm36 an36 cd36 ct36), sl36⟩) (c36 : PySem.W.codeIn K cd36 "_law_is_pot" = true) (k36 : PySem.W.keepIn K (.ref f36) = true)
    {od37 an37 : Option Addr} {sl37 : Array (Option Value)} {oc37 kV37 dc37 pm37 cd37 ct37 : Value} {f37 : Addr}
    (a37 : PySem.W.nsIn K mainGlobals "_law_frac_text" = some (some (.ref f37))) (l37 : K.lookup f37 = some ⟨oc37, od37, .func (PySem.W.fnOf "_law_frac_text" "_law_frac_text" (defArgs s_l_frac_text) (defBody s_l_frac_text) (defScope s_l_frac_text) .none kV37 dc37 pm37 an37 cd37 ct37), sl37⟩) (c37 : PySem.W.codeIn K cd37 "_law_frac_text" = true) (k37 : PySem.W.keepIn K (.ref f37) = true)
    {od38 an38 : Option Addr} {sl38 : Array (Option Value)} {oc38 kV38 dc38 pm38 cd38 ct38 : Value} {f38 : Addr}
    (a38 : PySem.W.nsIn K mainGlobals "_law_rows" = some (some (.ref f38))) (l38 : K.lookup f38 = some ⟨oc38, od38, .func (PySem.W.fnOf "_law_rows" "_law_rows" (defArgs s_l_rows) (defBody s_l_rows) (defScope s_l_rows) .none kV38 dc38 pm38 an38 cd38 ct38), sl38⟩) (c38 : PySem.W.codeIn K cd38 "_law_rows" = true) (k38 : PySem.W.keepIn K (.ref f38) = true)
    {od39 an39 : Option Addr} {sl39 : Array (Option Value)} {oc39 kV39 dc39 pm39 cd39 ct39 : Value} {f39 : Addr}
    (a39 : PySem.W.nsIn K mainGlobals "_law_refused" = some (some (.ref f39))) (l39 : K.lookup f39 = some ⟨oc39, od39, .func (PySem.W.fnOf "_law_refused" "_law_refused" (defArgs s_l_refused) (defBody s_l_refused) (defScope s_l_refused) .none kV39 dc39 pm39 an39 cd39 ct39), sl39⟩) (c39 : PySem.W.codeIn K cd39 "_law_refused" = true) (k39 : PySem.W.keepIn K (.ref f39) = true)
    {od40 an40 : Option Addr} {sl40 : Array (Option Value)} {oc40 kV40 dc40 pm40 cd40 ct40 : Value} {f40 : Addr}
    (a40 : PySem.W.nsIn K mainGlobals "_law_read_row" = some (some (.ref f40))) (l40 : K.lookup f40 = some ⟨oc40, od40, .func (PySem.W.fnOf "_law_read_row" "_law_read_row" (defArgs s_l_read_row) (defBody s_l_read_row) (defScope s_l_read_row) .none kV40 dc40 pm40 an40 cd40 ct40), sl40⟩) (c40 : PySem.W.codeIn K cd40 "_law_read_row" = true) (k40 : PySem.W.keepIn K (.ref f40) = true)
    {od41 an41 : Option Addr} {sl41 : Array (Option Value)} {oc41 kV41 dc41 pm41 cd41 ct41 : Value} {f41 : Addr}
    (a41 : PySem.W.nsIn K mainGlobals "_law_figures" = some (some (.ref f41))) (l41 : K.lookup f41 = some ⟨oc41, od41, .func (PySem.W.fnOf "_law_figures" "_law_figures" (defArgs s_l_figures) (defBody s_l_figures) (defScope s_l_figures) .none kV41 dc41 pm41 an41 cd41 ct41), sl41⟩) (c41 : PySem.W.codeIn K cd41 "_law_figures" = true) (k41 : PySem.W.keepIn K (.ref f41) = true)
    {od42 an42 : Option Addr} {sl42 : Array (Option Value)} {oc42 kV42 dc42 pm42 cd42 ct42 : Value} {f42 : Addr}
    (a42 : PySem.W.nsIn K mainGlobals "_law_read_frac" = some (some (.ref f42))) (l42 : K.lookup f42 = some ⟨oc42, od42, .func (PySem.W.fnOf "_law_read_frac" "_law_read_frac" (defArgs s_l_read_frac) (defBody s_l_read_frac) (defScope s_l_read_frac) .none kV42 dc42 pm42 an42 cd42 ct42), sl42⟩) (c42 : PySem.W.codeIn K cd42 "_law_read_frac" = true) (k42 : PySem.W.keepIn K (.ref f42) = true)
    {od43 an43 : Option Addr} {sl43 : Array (Option Value)} {oc43 kV43 dc43 pm43 cd43 ct43 : Value} {f43 : Addr}
    (a43 : PySem.W.nsIn K mainGlobals "_law_read" = some (some (.ref f43))) (l43 : K.lookup f43 = some ⟨oc43, od43, .func (PySem.W.fnOf "_law_read" "_law_read" (defArgs s_l_read) (defBody s_l_read) (defScope s_l_read) .none kV43 dc43 pm43 an43 cd43 ct43), sl43⟩) (c43 : PySem.W.codeIn K cd43 "_law_read" = true) (k43 : PySem.W.keepIn K (.ref f43) = true)
    {od44 an44 : Option Addr} {sl44 : Array (Option Value)} {oc44 kV44 dc44 pm44 cd44 ct44 : Value} {f44 : Addr}
    (a44 : PySem.W.nsIn K mainGlobals "_law_right" = some (some (.ref f44))) (l44 : K.lookup f44 = some ⟨oc44, od44, .func (PySem.W.fnOf "_law_right" "_law_right" (defArgs s_l_right) (defBody s_l_right) (defScope s_l_right) .none kV44 dc44 pm44 an44 cd44 ct44), sl44⟩) (c44 : PySem.W.codeIn K cd44 "_law_right" = true) (k44 : PySem.W.keepIn K (.ref f44) = true)
    {od45 an45 : Option Addr} {sl45 : Array (Option Value)} {oc45 kV45 dc45 pm45 cd45 ct45 : Value} {f45 : Addr}
    (a45 : PySem.W.nsIn K mainGlobals "_law_wrong" = some (some (.ref f45))) (l45 : K.lookup f45 = some ⟨oc45, od45, .func (PySem.W.fnOf "_law_wrong" "_law_wrong" (defArgs s_l_wrong) (defBody s_l_wrong) (defScope s_l_wrong) .none kV45 dc45 pm45 an45 cd45 ct45), sl45⟩) (c45 : PySem.W.codeIn K cd45 "_law_wrong" = true) (k45 : PySem.W.keepIn K (.ref f45) = true)
    {od46 an46 : Option Addr} {sl46 : Array (Option Value)} {oc46 kV46 dc46 pm46 cd46 ct46 : Value} {f46 : Addr}
    (a46 : PySem.W.nsIn K mainGlobals "_law_by_hand" = some (some (.ref f46))) (l46 : K.lookup f46 = some ⟨oc46, od46, .func (PySem.W.fnOf "_law_by_hand" "_law_by_hand" (defArgs s_l_by_hand) (defBody s_l_by_hand) (defScope s_l_by_hand) .none kV46 dc46 pm46 an46 cd46 ct46), sl46⟩) (c46 : PySem.W.codeIn K cd46 "_law_by_hand" = true) (k46 : PySem.W.keepIn K (.ref f46) = true)
    {od47 an47 : Option Addr} {sl47 : Array (Option Value)} {oc47 kV47 dc47 pm47 cd47 ct47 : Value} {f47 : Addr}
    (a47 : PySem.W.nsIn K mainGlobals "law" = some (some (.ref f47))) (l47 : K.lookup f47 = some ⟨oc47, od47, .func (PySem.W.fnOf "law" "law" (defArgs s_p_law) (defBody s_p_law) (defScope s_p_law) .none kV47 dc47 pm47 an47 cd47 ct47), sl47⟩) (c47 : PySem.W.codeIn K cd47 "law" = true) (k47 : PySem.W.keepIn K (.ref f47) = true)
    (z_ValueError : PySem.W.nsIn K mainGlobals "ValueError" = some none)
    (z_abs : PySem.W.nsIn K mainGlobals "abs" = some none)
    (z_all : PySem.W.nsIn K mainGlobals "all" = some none)
    (z_bool : PySem.W.nsIn K mainGlobals "bool" = some none)
    (z_dict : PySem.W.nsIn K mainGlobals "dict" = some none)
    (z_divmod : PySem.W.nsIn K mainGlobals "divmod" = some none)
    (z_enumerate : PySem.W.nsIn K mainGlobals "enumerate" = some none)
    (z_int : PySem.W.nsIn K mainGlobals "int" = some none)
    (z_isinstance : PySem.W.nsIn K mainGlobals "isinstance" = some none)
    (z_len : PySem.W.nsIn K mainGlobals "len" = some none)
    (z_list : PySem.W.nsIn K mainGlobals "list" = some none)
    (z_max : PySem.W.nsIn K mainGlobals "max" = some none)
    (z_min : PySem.W.nsIn K mainGlobals "min" = some none)
    (z_range : PySem.W.nsIn K mainGlobals "range" = some none)
    (z_reversed : PySem.W.nsIn K mainGlobals "reversed" = some none)
    (z_set : PySem.W.nsIn K mainGlobals "set" = some none)
    (z_str : PySem.W.nsIn K mainGlobals "str" = some none)
    (z_tuple : PySem.W.nsIn K mainGlobals "tuple" = some none)
    (z_zip : PySem.W.nsIn K mainGlobals "zip" = some none)
    (z_gcd : PySem.W.nsIn K mainGlobals "gcd" = some (some (.builtin "math.gcd")))
    {t_MOST_LETTERS : Tok} (z_MOST_LETTERS : PySem.W.nsIn K mainGlobals "MOST_LETTERS" = some (some (.int 8 t_MOST_LETTERS)))
    {t_MOST_KETTLES : Tok} (z_MOST_KETTLES : PySem.W.nsIn K mainGlobals "MOST_KETTLES" = some (some (.int 8 t_MOST_KETTLES)))
    {t_MOST_MOULDS : Tok} (z_MOST_MOULDS : PySem.W.nsIn K mainGlobals "MOST_MOULDS" = some (some (.int 40 t_MOST_MOULDS)))
    {t_MOST_ROOM : Tok} (z_MOST_ROOM : PySem.W.nsIn K mainGlobals "MOST_ROOM" = some (some (.int 1000000 t_MOST_ROOM)))
    {t_MOST_FIRE : Tok} (z_MOST_FIRE : PySem.W.nsIn K mainGlobals "MOST_FIRE" = some (some (.int 10000 t_MOST_FIRE)))
    {t_MOST_MARK_BOTTOM : Tok} (z_MOST_MARK_BOTTOM : PySem.W.nsIn K mainGlobals "MOST_MARK_BOTTOM" = some (some (.int 60 t_MOST_MARK_BOTTOM)))
    {t_MOST_DRIP_BOTTOM : Tok} (z_MOST_DRIP_BOTTOM : PySem.W.nsIn K mainGlobals "MOST_DRIP_BOTTOM" = some (some (.int 12 t_MOST_DRIP_BOTTOM)))
    {t_CHUNK : Tok} (z_CHUNK : PySem.W.nsIn K mainGlobals "CHUNK" = some (some (.int 10000000000000000000000000000000000000000000000000000000000000000 t_CHUNK)))
    {t_MOST_FIGURES_fractext : Tok} (z_MOST_FIGURES_fractext : PySem.W.nsIn K mainGlobals "MOST_FIGURES_fractext" = some (some (.int 40 t_MOST_FIGURES_fractext)))
    {t_MOST_FIGURES_rowtext : Tok} (z_MOST_FIGURES_rowtext : PySem.W.nsIn K mainGlobals "MOST_FIGURES_rowtext" = some (some (.int 7 t_MOST_FIGURES_rowtext)))
    {C_BoilError : Addr} (y_BoilError : PySem.W.nsIn K mainGlobals "BoilError" = some (some (.ref C_BoilError)))
    {C_BadRow : Addr} (y_BadRow : PySem.W.nsIn K mainGlobals "BadRow" = some (some (.ref C_BadRow)))
    {C_BadKettles : Addr} (y_BadKettles : PySem.W.nsIn K mainGlobals "BadKettles" = some (some (.ref C_BadKettles)))
    {C_BadMoulds : Addr} (y_BadMoulds : PySem.W.nsIn K mainGlobals "BadMoulds" = some (some (.ref C_BadMoulds)))
    {C_BadFrac : Addr} (y_BadFrac : PySem.W.nsIn K mainGlobals "BadFrac" = some (some (.ref C_BadFrac)))
    {nm_BadRow q_BadRow : Str} {N_BadRow fI_BadRow : Addr} {bs_BadRow : List Value} {sn_BadRow : List Str} {sub_BadRow : List Value} {ab_BadRow : Bool} {col_BadRow : Option Bool} {dd_BadRow odI_BadRow anI_BadRow : Option Addr} {t2_BadRow : Tok} {m0_BadRow m1_BadRow m3_BadRow m5_BadRow : Option Value} {ocI_BadRow kVI_BadRow dcI_BadRow pmI_BadRow cdI_BadRow ctI_BadRow : Value} {slI_BadRow : Array (Option Value)}
    (xL_BadRow : K.lookup C_BadRow = some (excClassObj nm_BadRow q_BadRow C_BadRow N_BadRow bs_BadRow [.ref C_BoilError, .type "ValueError", .type "Exception", .type "BaseException", .type "object"] true sn_BadRow sub_BadRow ab_BadRow col_BadRow dd_BadRow m0_BadRow m1_BadRow (some (.str "BadRow" t2_BadRow)) m3_BadRow m5_BadRow "ValueError.__new__"))
    (xsa_BadRow : PySem.W.findIn K (.ref C_BadRow) "__setattr__" = some (some (.builtin "object.__setattr__")))
    (xex_BadRow : PySem.W.subIn K (.ref C_BadRow) (.type "BaseException") = some true)
    (xty_BadRow : PySem.W.typeIn K (.ref C_BadRow) = some (.type "type"))
    (xk_BadRow : PySem.W.keepIn K (.ref C_BadRow) = true)
    (xi_BadRow : PySem.W.findIn K (.ref C_BadRow) "__init__" = some (some (.ref fI_BadRow)))
    (xti_BadRow : PySem.W.typeIn K (.ref fI_BadRow) = some (.type "function"))
    (xl_BadRow : K.lookup fI_BadRow = some ⟨ocI_BadRow, odI_BadRow, .func (PySem.W.fnOf "__init__" "BadRow.__init__" (defArgs s_init_BadRow) (defBody s_init_BadRow) (defScope s_init_BadRow) .none kVI_BadRow dcI_BadRow pmI_BadRow anI_BadRow cdI_BadRow ctI_BadRow), slI_BadRow⟩)
    (xc_BadRow : PySem.W.codeIn K cdI_BadRow "BadRow.__init__" = true)
    (xki_BadRow : PySem.W.keepIn K (.ref fI_BadRow) = true)
    (ecl_BadRow : PySem.W.isClsIn K C_BadRow = true)
    (ega_BadRow : PySem.W.findIn K (.ref C_BadRow) "__getattribute__" = some (some (.builtin "BaseException.__getattribute__")))
    (egg_BadRow : PySem.W.findIn K (.ref C_BadRow) "__getattr__" = some none)
    (ecs_BadRow : PySem.W.findIn K (.ref C_BadRow) "__class__" = some (some (.builtin "object.__class__")))
    (ege_BadRow : PySem.W.specialIn K (.builtin "object.__class__") "__get__" = some (some (.builtin "getset_descriptor.__get__")))
    (etk_BadRow : PySem.W.takesIn K (.builtin "object.__class__") = some true)
    (eob_BadRow : PySem.W.mroIn K C_BadRow (.type "object") = some true)
    (edi_BadRow : PySem.W.hasDictIn K C_BadRow = true)
    (efw_BadRow : PySem.W.findIn K (.ref C_BadRow) "word" = some none)
    (ern_BadRow : PySem.W.readsIn K C_BadRow (.type "type") = true)
    (efc_BadRow : PySem.W.findCls K (.ref C_BadRow) (.type "type") "__name__" = some (.get (.builtin "getset_descriptor.__get__") (.builtin "type.__name__") (.ref C_BadRow) (.type "type")))
    (efl_BadRow : PySem.W.findIn K (.ref C_BadRow) "what" = some none)
    {nm_BadKettles q_BadKettles : Str} {N_BadKettles fI_BadKettles : Addr} {bs_BadKettles : List Value} {sn_BadKettles : List Str} {sub_BadKettles : List Value} {ab_BadKettles : Bool} {col_BadKettles : Option Bool} {dd_BadKettles odI_BadKettles anI_BadKettles : Option Addr} {t2_BadKettles : Tok} {m0_BadKettles m1_BadKettles m3_BadKettles m5_BadKettles : Option Value} {ocI_BadKettles kVI_BadKettles dcI_BadKettles pmI_BadKettles cdI_BadKettles ctI_BadKettles : Value} {slI_BadKettles : Array (Option Value)}
    (xL_BadKettles : K.lookup C_BadKettles = some (excClassObj nm_BadKettles q_BadKettles C_BadKettles N_BadKettles bs_BadKettles [.ref C_BoilError, .type "ValueError", .type "Exception", .type "BaseException", .type "object"] true sn_BadKettles sub_BadKettles ab_BadKettles col_BadKettles dd_BadKettles m0_BadKettles m1_BadKettles (some (.str "BadKettles" t2_BadKettles)) m3_BadKettles m5_BadKettles "ValueError.__new__"))
    (xsa_BadKettles : PySem.W.findIn K (.ref C_BadKettles) "__setattr__" = some (some (.builtin "object.__setattr__")))
    (xex_BadKettles : PySem.W.subIn K (.ref C_BadKettles) (.type "BaseException") = some true)
    (xty_BadKettles : PySem.W.typeIn K (.ref C_BadKettles) = some (.type "type"))
    (xk_BadKettles : PySem.W.keepIn K (.ref C_BadKettles) = true)
    (xi_BadKettles : PySem.W.findIn K (.ref C_BadKettles) "__init__" = some (some (.ref fI_BadKettles)))
    (xti_BadKettles : PySem.W.typeIn K (.ref fI_BadKettles) = some (.type "function"))
    (xl_BadKettles : K.lookup fI_BadKettles = some ⟨ocI_BadKettles, odI_BadKettles, .func (PySem.W.fnOf "__init__" "BadKettles.__init__" (defArgs s_init_BadKettles) (defBody s_init_BadKettles) (defScope s_init_BadKettles) .none kVI_BadKettles dcI_BadKettles pmI_BadKettles anI_BadKettles cdI_BadKettles ctI_BadKettles), slI_BadKettles⟩)
    (xc_BadKettles : PySem.W.codeIn K cdI_BadKettles "BadKettles.__init__" = true)
    (xki_BadKettles : PySem.W.keepIn K (.ref fI_BadKettles) = true)
    (ecl_BadKettles : PySem.W.isClsIn K C_BadKettles = true)
    (ega_BadKettles : PySem.W.findIn K (.ref C_BadKettles) "__getattribute__" = some (some (.builtin "BaseException.__getattribute__")))
    (egg_BadKettles : PySem.W.findIn K (.ref C_BadKettles) "__getattr__" = some none)
    (ecs_BadKettles : PySem.W.findIn K (.ref C_BadKettles) "__class__" = some (some (.builtin "object.__class__")))
    (ege_BadKettles : PySem.W.specialIn K (.builtin "object.__class__") "__get__" = some (some (.builtin "getset_descriptor.__get__")))
    (etk_BadKettles : PySem.W.takesIn K (.builtin "object.__class__") = some true)
    (eob_BadKettles : PySem.W.mroIn K C_BadKettles (.type "object") = some true)
    (edi_BadKettles : PySem.W.hasDictIn K C_BadKettles = true)
    (efw_BadKettles : PySem.W.findIn K (.ref C_BadKettles) "word" = some none)
    (ern_BadKettles : PySem.W.readsIn K C_BadKettles (.type "type") = true)
    (efc_BadKettles : PySem.W.findCls K (.ref C_BadKettles) (.type "type") "__name__" = some (.get (.builtin "getset_descriptor.__get__") (.builtin "type.__name__") (.ref C_BadKettles) (.type "type")))
    (efl_BadKettles : PySem.W.findIn K (.ref C_BadKettles) "what" = some none)
    {nm_BadMoulds q_BadMoulds : Str} {N_BadMoulds fI_BadMoulds : Addr} {bs_BadMoulds : List Value} {sn_BadMoulds : List Str} {sub_BadMoulds : List Value} {ab_BadMoulds : Bool} {col_BadMoulds : Option Bool} {dd_BadMoulds odI_BadMoulds anI_BadMoulds : Option Addr} {t2_BadMoulds : Tok} {m0_BadMoulds m1_BadMoulds m3_BadMoulds m5_BadMoulds : Option Value} {ocI_BadMoulds kVI_BadMoulds dcI_BadMoulds pmI_BadMoulds cdI_BadMoulds ctI_BadMoulds : Value} {slI_BadMoulds : Array (Option Value)}
    (xL_BadMoulds : K.lookup C_BadMoulds = some (excClassObj nm_BadMoulds q_BadMoulds C_BadMoulds N_BadMoulds bs_BadMoulds [.ref C_BoilError, .type "ValueError", .type "Exception", .type "BaseException", .type "object"] true sn_BadMoulds sub_BadMoulds ab_BadMoulds col_BadMoulds dd_BadMoulds m0_BadMoulds m1_BadMoulds (some (.str "BadMoulds" t2_BadMoulds)) m3_BadMoulds m5_BadMoulds "ValueError.__new__"))
    (xsa_BadMoulds : PySem.W.findIn K (.ref C_BadMoulds) "__setattr__" = some (some (.builtin "object.__setattr__")))
    (xex_BadMoulds : PySem.W.subIn K (.ref C_BadMoulds) (.type "BaseException") = some true)
    (xty_BadMoulds : PySem.W.typeIn K (.ref C_BadMoulds) = some (.type "type"))
    (xk_BadMoulds : PySem.W.keepIn K (.ref C_BadMoulds) = true)
    (xi_BadMoulds : PySem.W.findIn K (.ref C_BadMoulds) "__init__" = some (some (.ref fI_BadMoulds)))
    (xti_BadMoulds : PySem.W.typeIn K (.ref fI_BadMoulds) = some (.type "function"))
    (xl_BadMoulds : K.lookup fI_BadMoulds = some ⟨ocI_BadMoulds, odI_BadMoulds, .func (PySem.W.fnOf "__init__" "BadMoulds.__init__" (defArgs s_init_BadMoulds) (defBody s_init_BadMoulds) (defScope s_init_BadMoulds) .none kVI_BadMoulds dcI_BadMoulds pmI_BadMoulds anI_BadMoulds cdI_BadMoulds ctI_BadMoulds), slI_BadMoulds⟩)
    (xc_BadMoulds : PySem.W.codeIn K cdI_BadMoulds "BadMoulds.__init__" = true)
    (xki_BadMoulds : PySem.W.keepIn K (.ref fI_BadMoulds) = true)
    (ecl_BadMoulds : PySem.W.isClsIn K C_BadMoulds = true)
    (ega_BadMoulds : PySem.W.findIn K (.ref C_BadMoulds) "__getattribute__" = some (some (.builtin "BaseException.__getattribute__")))
    (egg_BadMoulds : PySem.W.findIn K (.ref C_BadMoulds) "__getattr__" = some none)
    (ecs_BadMoulds : PySem.W.findIn K (.ref C_BadMoulds) "__class__" = some (some (.builtin "object.__class__")))
    (ege_BadMoulds : PySem.W.specialIn K (.builtin "object.__class__") "__get__" = some (some (.builtin "getset_descriptor.__get__")))
    (etk_BadMoulds : PySem.W.takesIn K (.builtin "object.__class__") = some true)
    (eob_BadMoulds : PySem.W.mroIn K C_BadMoulds (.type "object") = some true)
    (edi_BadMoulds : PySem.W.hasDictIn K C_BadMoulds = true)
    (efw_BadMoulds : PySem.W.findIn K (.ref C_BadMoulds) "word" = some none)
    (ern_BadMoulds : PySem.W.readsIn K C_BadMoulds (.type "type") = true)
    (efc_BadMoulds : PySem.W.findCls K (.ref C_BadMoulds) (.type "type") "__name__" = some (.get (.builtin "getset_descriptor.__get__") (.builtin "type.__name__") (.ref C_BadMoulds) (.type "type")))
    (efl_BadMoulds : PySem.W.findIn K (.ref C_BadMoulds) "what" = some none)
    {nm_BadFrac q_BadFrac : Str} {N_BadFrac fI_BadFrac : Addr} {bs_BadFrac : List Value} {sn_BadFrac : List Str} {sub_BadFrac : List Value} {ab_BadFrac : Bool} {col_BadFrac : Option Bool} {dd_BadFrac odI_BadFrac anI_BadFrac : Option Addr} {t2_BadFrac : Tok} {m0_BadFrac m1_BadFrac m3_BadFrac m5_BadFrac : Option Value} {ocI_BadFrac kVI_BadFrac dcI_BadFrac pmI_BadFrac cdI_BadFrac ctI_BadFrac : Value} {slI_BadFrac : Array (Option Value)}
    (xL_BadFrac : K.lookup C_BadFrac = some (excClassObj nm_BadFrac q_BadFrac C_BadFrac N_BadFrac bs_BadFrac [.ref C_BoilError, .type "ValueError", .type "Exception", .type "BaseException", .type "object"] true sn_BadFrac sub_BadFrac ab_BadFrac col_BadFrac dd_BadFrac m0_BadFrac m1_BadFrac (some (.str "BadFrac" t2_BadFrac)) m3_BadFrac m5_BadFrac "ValueError.__new__"))
    (xsa_BadFrac : PySem.W.findIn K (.ref C_BadFrac) "__setattr__" = some (some (.builtin "object.__setattr__")))
    (xex_BadFrac : PySem.W.subIn K (.ref C_BadFrac) (.type "BaseException") = some true)
    (xty_BadFrac : PySem.W.typeIn K (.ref C_BadFrac) = some (.type "type"))
    (xk_BadFrac : PySem.W.keepIn K (.ref C_BadFrac) = true)
    (xi_BadFrac : PySem.W.findIn K (.ref C_BadFrac) "__init__" = some (some (.ref fI_BadFrac)))
    (xti_BadFrac : PySem.W.typeIn K (.ref fI_BadFrac) = some (.type "function"))
    (xl_BadFrac : K.lookup fI_BadFrac = some ⟨ocI_BadFrac, odI_BadFrac, .func (PySem.W.fnOf "__init__" "BadFrac.__init__" (defArgs s_init_BadFrac) (defBody s_init_BadFrac) (defScope s_init_BadFrac) .none kVI_BadFrac dcI_BadFrac pmI_BadFrac anI_BadFrac cdI_BadFrac ctI_BadFrac), slI_BadFrac⟩)
    (xc_BadFrac : PySem.W.codeIn K cdI_BadFrac "BadFrac.__init__" = true)
    (xki_BadFrac : PySem.W.keepIn K (.ref fI_BadFrac) = true)
    (ecl_BadFrac : PySem.W.isClsIn K C_BadFrac = true)
    (ega_BadFrac : PySem.W.findIn K (.ref C_BadFrac) "__getattribute__" = some (some (.builtin "BaseException.__getattribute__")))
    (egg_BadFrac : PySem.W.findIn K (.ref C_BadFrac) "__getattr__" = some none)
    (ecs_BadFrac : PySem.W.findIn K (.ref C_BadFrac) "__class__" = some (some (.builtin "object.__class__")))
    (ege_BadFrac : PySem.W.specialIn K (.builtin "object.__class__") "__get__" = some (some (.builtin "getset_descriptor.__get__")))
    (etk_BadFrac : PySem.W.takesIn K (.builtin "object.__class__") = some true)
    (eob_BadFrac : PySem.W.mroIn K C_BadFrac (.type "object") = some true)
    (edi_BadFrac : PySem.W.hasDictIn K C_BadFrac = true)
    (efw_BadFrac : PySem.W.findIn K (.ref C_BadFrac) "word" = some none)
    (ern_BadFrac : PySem.W.readsIn K C_BadFrac (.type "type") = true)
    (efc_BadFrac : PySem.W.findCls K (.ref C_BadFrac) (.type "type") "__name__" = some (.get (.builtin "getset_descriptor.__get__") (.builtin "type.__name__") (.ref C_BadFrac) (.type "type")))
    (efl_BadFrac : PySem.W.findIn K (.ref C_BadFrac) "what" = some none)
    (ic_BoilError : PySem.W.isClsIn K C_BoilError = true)
    (it_BoilError : PySem.W.typeIn K (.ref C_BoilError) = some (.type "type"))
    (ibx : PySem.W.subIn K (.ref C_BoilError) (.type "BaseException") = some true)
    (su_BadRow_BoilError : PySem.W.subIn K (.ref C_BadRow) (.ref C_BoilError) = some true)
    (su_BadRow_BadRow : PySem.W.subIn K (.ref C_BadRow) (.ref C_BadRow) = some true)
    (su_BadFrac_BadFrac : PySem.W.subIn K (.ref C_BadFrac) (.ref C_BadFrac) = some true)
    (su_BadRow_BadFrac : PySem.W.subIn K (.ref C_BadRow) (.ref C_BadFrac) = some false)
    (su_BadRow_BadKettles : PySem.W.subIn K (.ref C_BadRow) (.ref C_BadKettles) = some false)
    (su_BadRow_BadMoulds : PySem.W.subIn K (.ref C_BadRow) (.ref C_BadMoulds) = some false)
    (ive_BadRow : PySem.W.subIn K (.ref C_BadRow) (.type "ValueError") = some true)
    : ∃ (fd : FuncData) (cs : List (Addr × Addr)), (∀ p ∈ cs, ∃ y ∈ (["is_name", "_can_be_kettles", "_can_be_moulds"] : List Str), PySem.W.tabIn K y = some p) ∧ (∀ p ∈ cs, K.lookup p.2 = none) ∧ (∀ (s : Shared) (v : Value), BindsTo s fd ⟨[v], []⟩ [("_law_script", v)]) ∧ ∀ base : Heap, K.In base → base.Ns mainGlobals mg → (∀ p ∈ cs, GxR.TabB base mg p.1 p.2) → FnG l.prog w K mg base 13 fa fd ["_law_script"] (sp_p_law K (cs.map (·.2))) := by
  have e := hfa.symm.trans (PySem.W.mg_of X G a47)
  cases e
  have F0 := fun_mk (st := s_Row_init) l0 c0 k0
  have F1 := fun_mk (st := s_p_is_number) l1 c1 k1
  have F2 := fun_mk (st := s_p_is_number_within) l2 c2 k2
  have F3 := fun_mk (st := s_p_figures_of) l3 c3 k3
  have F4 := fun_mk (st := s_p_are_figures) l4 c4 k4
  have F5 := fun_mk (st := s_p_number_in) l5 c5 k5
  have F6 := fun_mk (st := s_p_is_frac) l6 c6 k6
  have F7 := fun_mk (st := s_p_frac_text) l7 c7 k7
  have F8 := fun_mk (st := s_p_frac_in) l8 c8 k8
  have F9 := fun_mk (st := s_p_frac_or_none) l9 c9 k9
  have F10 := fun_mk (st := s_p__read) l10 c10 k10
  have F11 := fun_mk (st := s_p_is_name) l11 c11 k11
  have F12 := fun_mk (st := s_p_are_unlike) l12 c12 k12
  have F13 := fun_mk (st := s_p_is_kettle) l13 c13 k13
  have F14 := fun_mk (st := s_p_is_mould) l14 c14 k14
  have F15 := fun_mk (st := s_p__can_be_kettles) l15 c15 k15
  have F16 := fun_mk (st := s_p__can_be_moulds) l16 c16 k16
  have F17 := fun_mk (st := s_p__are_name_and_room) l17 c17 k17
  have F18 := fun_mk (st := s_p__is_mark) l18 c18 k18
  have F19 := fun_mk (st := s_p__is_drip) l19 c19 k19
  have F20 := fun_mk (st := s_p_row_from) l20 c20 k20
  have F21 := fun_mk (st := s_p__thing_in) l21 c21 k21
  have F22 := fun_mk (st := s_p__can_stand) l22 c22 k22
  have F23 := fun_mk (st := s_l_cell_at) l23 c23 k23
  have F24 := fun_mk (st := s_l_box) l24 c24 k24
  have F25 := fun_mk (st := s_l_take) l25 c25 k25
  have F26 := fun_mk (st := s_l_same) l26 c26 k26
  have F27 := fun_mk (st := s_l_names) l27 c27 k27
  have F28 := fun_mk (st := s_l_low) l28 c28 k28
  have F29 := fun_mk (st := s_l_room) l29 c29 k29
  have F30 := fun_mk (st := s_l_kettle) l30 c30 k30
  have F31 := fun_mk (st := s_l_mould) l31 c31 k31
  have F32 := fun_mk (st := s_l_row) l32 c32 k32
  have F33 := fun_mk (st := s_l_is_name) l33 c33 k33
  have F34 := fun_mk (st := s_l_is_number) l34 c34 k34
  have F35 := fun_mk (st := s_l_is_frac) l35 c35 k35
  have F36 := fun_mk (st := s_l_is_pot) l36 c36 k36
  have F37 := fun_mk (st := s_l_frac_text) l37 c37 k37
  have F38 := fun_mk (st := s_l_rows) l38 c38 k38
  have F39 := fun_mk (st := s_l_refused) l39 c39 k39
  have F40 := fun_mk (st := s_l_read_row) l40 c40 k40
  have F41 := fun_mk (st := s_l_figures) l41 c41 k41
  have F42 := fun_mk (st := s_l_read_frac) l42 c42 k42
  have F43 := fun_mk (st := s_l_read) l43 c43 k43
  have F44 := fun_mk (st := s_l_right) l44 c44 k44
  have F45 := fun_mk (st := s_l_wrong) l45 c45 k45
  have F46 := fun_mk (st := s_l_by_hand) l46 c46 k46
  have F47 := fun_mk (st := s_p_law) l47 c47 k47
  have FI_BadRow := fun_mk (st := s_init_BadRow) xl_BadRow xc_BadRow xki_BadRow
  have FI_BadKettles := fun_mk (st := s_init_BadKettles) xl_BadKettles xc_BadKettles xki_BadKettles
  have FI_BadMoulds := fun_mk (st := s_init_BadMoulds) xl_BadMoulds xc_BadMoulds xki_BadMoulds
  have FI_BadFrac := fun_mk (st := s_init_BadFrac) xl_BadFrac xc_BadFrac xki_BadFrac
  let T : All K mg := ⟨_, _, F0, F0.binds (ps := ["self", "kettles", "moulds"]) fun _ _ _ _ _ _ us hl => match us, hl with | [_, _, _], _ => rfl, _, _, ⟨F1, PySem.W.mg_of X G a1, F1.binds (ps := ["thing"]) fun _ _ _ _ _ _ us hl => match us, hl with | [_], _ => rfl⟩, _, _, ⟨F2, PySem.W.mg_of X G a2, F2.binds (ps := ["thing", "least", "most"]) fun _ _ _ _ _ _ us hl => match us, hl with | [_, _, _], _ => rfl⟩, _, _, ⟨F3, PySem.W.mg_of X G a3, F3.binds (ps := ["number"]) fun _ _ _ _ _ _ us hl => match us, hl with | [_], _ => rfl⟩, _, _, ⟨F4, PySem.W.mg_of X G a4, F4.binds (ps := ["text", "most"]) fun _ _ _ _ _ _ us hl => match us, hl with | [_, _], _ => rfl⟩, _, _, ⟨F5, PySem.W.mg_of X G a5, F5.binds (ps := ["text", "most"]) fun _ _ _ _ _ _ us hl => match us, hl with | [_, _], _ => rfl⟩, _, _, ⟨F6, PySem.W.mg_of X G a6, F6.binds (ps := ["thing"]) fun _ _ _ _ _ _ us hl => match us, hl with | [_], _ => rfl⟩, _, _, ⟨F7, PySem.W.mg_of X G a7, F7.binds (ps := ["one"]) fun _ _ _ _ _ _ us hl => match us, hl with | [_], _ => rfl⟩, _, _, ⟨F8, PySem.W.mg_of X G a8, F8.binds (ps := ["text"]) fun _ _ _ _ _ _ us hl => match us, hl with | [_], _ => rfl⟩, _, _, ⟨F9, PySem.W.mg_of X G a9, F9.binds (ps := ["text"]) fun _ _ _ _ _ _ us hl => match us, hl with | [_], _ => rfl⟩, _, _, ⟨F10, PySem.W.mg_of X G a10, F10.binds (ps := ["text"]) fun _ _ _ _ _ _ us hl => match us, hl with | [_], _ => rfl⟩, _, _, ⟨F11, PySem.W.mg_of X G a11, F11.binds (ps := ["thing"]) fun _ _ _ _ _ _ us hl => match us, hl with | [_], _ => rfl⟩, _, _, ⟨F12, PySem.W.mg_of X G a12, F12.binds (ps := ["names"]) fun _ _ _ _ _ _ us hl => match us, hl with | [_], _ => rfl⟩, _, _, ⟨F13, PySem.W.mg_of X G a13, F13.binds (ps := ["thing"]) fun _ _ _ _ _ _ us hl => match us, hl with | [_], _ => rfl⟩, _, _, ⟨F14, PySem.W.mg_of X G a14, F14.binds (ps := ["thing"]) fun _ _ _ _ _ _ us hl => match us, hl with | [_], _ => rfl⟩, _, _, ⟨F15, PySem.W.mg_of X G a15, F15.binds (ps := ["things"]) fun _ _ _ _ _ _ us hl => match us, hl with | [_], _ => rfl⟩, _, _, ⟨F16, PySem.W.mg_of X G a16, F16.binds (ps := ["things", "kettles"]) fun _ _ _ _ _ _ us hl => match us, hl with | [_, _], _ => rfl⟩, _, _, ⟨F17, PySem.W.mg_of X G a17, F17.binds (ps := ["name", "room"]) fun _ _ _ _ _ _ us hl => match us, hl with | [_, _], _ => rfl⟩, _, _, ⟨F18, PySem.W.mg_of X G a18, F18.binds (ps := ["thing"]) fun _ _ _ _ _ _ us hl => match us, hl with | [_], _ => rfl⟩, _, _, ⟨F19, PySem.W.mg_of X G a19, F19.binds (ps := ["thing"]) fun _ _ _ _ _ _ us hl => match us, hl with | [_], _ => rfl⟩, _, _, ⟨F20, PySem.W.mg_of X G a20, F20.binds (ps := ["text"]) fun _ _ _ _ _ _ us hl => match us, hl with | [_], _ => rfl⟩, _, _, ⟨F21, PySem.W.mg_of X G a21, F21.binds (ps := ["words"]) fun _ _ _ _ _ _ us hl => match us, hl with | [_], _ => rfl⟩, _, _, ⟨F22, PySem.W.mg_of X G a22, F22.binds (ps := ["thing", "kettles", "moulds"]) fun _ _ _ _ _ _ us hl => match us, hl with | [_, _, _], _ => rfl⟩, _, _, ⟨F23, PySem.W.mg_of X G a23, F23.binds (ps := ["_law_script", "_law_k"]) fun _ _ _ _ _ _ us hl => match us, hl with | [_, _], _ => rfl⟩, _, _, ⟨F24, PySem.W.mg_of X G a24, F24.binds (ps := ["_law_script", "_law_k"]) fun _ _ _ _ _ _ us hl => match us, hl with | [_, _], _ => rfl⟩, _, _, ⟨F25, PySem.W.mg_of X G a25, F25.binds (ps := ["_law_box_here", "_law_many"]) fun _ _ _ _ _ _ us hl => match us, hl with | [_, _], _ => rfl⟩, _, _, ⟨F26, PySem.W.mg_of X G a26, F26.binds (ps := ["_law_found", "_law_due"]) fun _ _ _ _ _ _ us hl => match us, hl with | [_, _], _ => rfl⟩, _, _, ⟨F27, PySem.W.mg_of X G a27, F27.binds (ps := ["_law_box_here", "_law_many"]) fun _ _ _ _ _ _ us hl => match us, hl with | [_, _], _ => rfl⟩, _, _, ⟨F28, PySem.W.mg_of X G a28, F28.binds (ps := ["_law_top", "_law_bottom"]) fun _ _ _ _ _ _ us hl => match us, hl with | [_, _], _ => rfl⟩, _, _, ⟨F29, PySem.W.mg_of X G a29, F29.binds (ps := ["_law_box_here"]) fun _ _ _ _ _ _ us hl => match us, hl with | [_], _ => rfl⟩, _, _, ⟨F30, PySem.W.mg_of X G a30, F30.binds (ps := ["_law_box_here", "_law_name"]) fun _ _ _ _ _ _ us hl => match us, hl with | [_, _], _ => rfl⟩, _, _, ⟨F31, PySem.W.mg_of X G a31, F31.binds (ps := ["_law_box_here", "_law_name"]) fun _ _ _ _ _ _ us hl => match us, hl with | [_, _], _ => rfl⟩, _, _, ⟨F32, PySem.W.mg_of X G a32, F32.binds (ps := ["_law_box_here", "_law_kettles", "_law_moulds"]) fun _ _ _ _ _ _ us hl => match us, hl with | [_, _, _], _ => rfl⟩, _, _, ⟨F33, PySem.W.mg_of X G a33, F33.binds (ps := ["_law_thing"]) fun _ _ _ _ _ _ us hl => match us, hl with | [_], _ => rfl⟩, _, _, ⟨F34, PySem.W.mg_of X G a34, F34.binds (ps := ["_law_thing"]) fun _ _ _ _ _ _ us hl => match us, hl with | [_], _ => rfl⟩, _, _, ⟨F35, PySem.W.mg_of X G a35, F35.binds (ps := ["_law_thing"]) fun _ _ _ _ _ _ us hl => match us, hl with | [_], _ => rfl⟩, _, _, ⟨F36, PySem.W.mg_of X G a36, F36.binds (ps := ["_law_thing", "_law_parts"]) fun _ _ _ _ _ _ us hl => match us, hl with | [_, _], _ => rfl⟩, _, _, ⟨F37, PySem.W.mg_of X G a37, F37.binds (ps := ["_law_one"]) fun _ _ _ _ _ _ us hl => match us, hl with | [_], _ => rfl⟩, _, _, ⟨F38, PySem.W.mg_of X G a38, F38.binds (ps := ["_law_kettles", "_law_moulds"]) fun _ _ _ _ _ _ us hl => match us, hl with | [_, _], _ => rfl⟩, _, _, ⟨F39, PySem.W.mg_of X G a39, F39.binds (ps := ["_law_text"]) fun _ _ _ _ _ _ us hl => match us, hl with | [_], _ => rfl⟩, _, _, ⟨F40, PySem.W.mg_of X G a40, F40.binds (ps := ["_law_text"]) fun _ _ _ _ _ _ us hl => match us, hl with | [_], _ => rfl⟩, _, _, ⟨F41, PySem.W.mg_of X G a41, F41.binds (ps := ["_law_word"]) fun _ _ _ _ _ _ us hl => match us, hl with | [_], _ => rfl⟩, _, _, ⟨F42, PySem.W.mg_of X G a42, F42.binds (ps := ["_law_word"]) fun _ _ _ _ _ _ us hl => match us, hl with | [_], _ => rfl⟩, _, _, ⟨F43, PySem.W.mg_of X G a43, F43.binds (ps := ["_law_text"]) fun _ _ _ _ _ _ us hl => match us, hl with | [_], _ => rfl⟩, _, _, ⟨F44, PySem.W.mg_of X G a44, F44.binds (ps := ["_law_text"]) fun _ _ _ _ _ _ us hl => match us, hl with | [_], _ => rfl⟩, _, _, ⟨F45, PySem.W.mg_of X G a45, F45.binds (ps := ["_law_words", "_law_ahead"]) fun _ _ _ _ _ _ us hl => match us, hl with | [_, _], _ => rfl⟩, _, _, ⟨F46, PySem.W.mg_of X G a46, F46.binds (ps := ["_law_kettles", "_law_moulds"]) fun _ _ _ _ _ _ us hl => match us, hl with | [_, _], _ => rfl⟩, _, _, ⟨F47, PySem.W.mg_of X G a47, F47.binds (ps := ["_law_script"]) fun _ _ _ _ _ _ us hl => match us, hl with | [_], _ => rfl⟩, PySem.W.mg_none_of X G z_ValueError, PySem.W.mg_none_of X G z_abs, PySem.W.mg_none_of X G z_all, PySem.W.mg_none_of X G z_bool, PySem.W.mg_none_of X G z_dict, PySem.W.mg_none_of X G z_divmod, PySem.W.mg_none_of X G z_enumerate, PySem.W.mg_none_of X G z_int, PySem.W.mg_none_of X G z_isinstance, PySem.W.mg_none_of X G z_len, PySem.W.mg_none_of X G z_list, PySem.W.mg_none_of X G z_max, PySem.W.mg_none_of X G z_min, PySem.W.mg_none_of X G z_range, PySem.W.mg_none_of X G z_reversed, PySem.W.mg_none_of X G z_set, PySem.W.mg_none_of X G z_str, PySem.W.mg_none_of X G z_tuple, PySem.W.mg_none_of X G z_zip, PySem.W.mg_of X G z_gcd, _, PySem.W.mg_of X G z_MOST_LETTERS, _, PySem.W.mg_of X G z_MOST_KETTLES, _, PySem.W.mg_of X G z_MOST_MOULDS, _, PySem.W.mg_of X G z_MOST_ROOM, _, PySem.W.mg_of X G z_MOST_FIRE, _, PySem.W.mg_of X G z_MOST_MARK_BOTTOM, _, PySem.W.mg_of X G z_MOST_DRIP_BOTTOM, _, PySem.W.mg_of X G z_CHUNK, _, PySem.W.mg_of X G z_MOST_FIGURES_fractext, _, PySem.W.mg_of X G z_MOST_FIGURES_rowtext, _, PySem.W.mg_of X G y_BoilError, _, PySem.W.mg_of X G y_BadRow, _, PySem.W.mg_of X G y_BadKettles, _, PySem.W.mg_of X G y_BadMoulds, _, PySem.W.mg_of X G y_BadFrac, ⟨⟨_, _, _, _, _, _, _, _, _, _, _, _, _, _, _, xL_BadRow, rfl⟩, xsa_BadRow, xex_BadRow, xty_BadRow, xk_BadRow⟩, _, _, xi_BadRow, xti_BadRow, FI_BadRow, FI_BadRow.binds (ps := ["self", "what"]) fun _ _ _ _ _ _ us hl => match us, hl with | [_, _], _ => rfl, ⟨ecl_BadRow, ega_BadRow, egg_BadRow, xex_BadRow, ecs_BadRow, ege_BadRow, etk_BadRow, eob_BadRow, edi_BadRow, efl_BadRow⟩, ⟨⟨_, t2_BadRow, xL_BadRow, rfl, rfl⟩, ern_BadRow, efw_BadRow, efc_BadRow⟩, ⟨⟨_, _, _, _, _, _, _, _, _, _, _, _, _, _, _, xL_BadKettles, rfl⟩, xsa_BadKettles, xex_BadKettles, xty_BadKettles, xk_BadKettles⟩, _, _, xi_BadKettles, xti_BadKettles, FI_BadKettles, FI_BadKettles.binds (ps := ["self", "what"]) fun _ _ _ _ _ _ us hl => match us, hl with | [_, _], _ => rfl, ⟨ecl_BadKettles, ega_BadKettles, egg_BadKettles, xex_BadKettles, ecs_BadKettles, ege_BadKettles, etk_BadKettles, eob_BadKettles, edi_BadKettles, efl_BadKettles⟩, ⟨⟨_, t2_BadKettles, xL_BadKettles, rfl, rfl⟩, ern_BadKettles, efw_BadKettles, efc_BadKettles⟩, ⟨⟨_, _, _, _, _, _, _, _, _, _, _, _, _, _, _, xL_BadMoulds, rfl⟩, xsa_BadMoulds, xex_BadMoulds, xty_BadMoulds, xk_BadMoulds⟩, _, _, xi_BadMoulds, xti_BadMoulds, FI_BadMoulds, FI_BadMoulds.binds (ps := ["self", "what"]) fun _ _ _ _ _ _ us hl => match us, hl with | [_, _], _ => rfl, ⟨ecl_BadMoulds, ega_BadMoulds, egg_BadMoulds, xex_BadMoulds, ecs_BadMoulds, ege_BadMoulds, etk_BadMoulds, eob_BadMoulds, edi_BadMoulds, efl_BadMoulds⟩, ⟨⟨_, t2_BadMoulds, xL_BadMoulds, rfl, rfl⟩, ern_BadMoulds, efw_BadMoulds, efc_BadMoulds⟩, ⟨⟨_, _, _, _, _, _, _, _, _, _, _, _, _, _, _, xL_BadFrac, rfl⟩, xsa_BadFrac, xex_BadFrac, xty_BadFrac, xk_BadFrac⟩, _, _, xi_BadFrac, xti_BadFrac, FI_BadFrac, FI_BadFrac.binds (ps := ["self", "what"]) fun _ _ _ _ _ _ us hl => match us, hl with | [_, _], _ => rfl, ⟨ecl_BadFrac, ega_BadFrac, egg_BadFrac, xex_BadFrac, ecs_BadFrac, ege_BadFrac, etk_BadFrac, eob_BadFrac, edi_BadFrac, efl_BadFrac⟩, ⟨⟨_, t2_BadFrac, xL_BadFrac, rfl, rfl⟩, ern_BadFrac, efw_BadFrac, efc_BadFrac⟩, exm_own ibx ic_BoilError it_BoilError su_BadRow_BoilError, exm_own xex_BadFrac ecl_BadFrac xty_BadFrac su_BadFrac_BadFrac, kitAny_cons (kit_own ecl_BadFrac xty_BadFrac su_BadRow_BadFrac su_BadRow_BadRow) (fun _ => kitAny_cons (kit_own ecl_BadKettles xty_BadKettles su_BadRow_BadKettles su_BadRow_BadRow) (fun _ => kitAny_cons (kit_own ecl_BadMoulds xty_BadMoulds su_BadRow_BadMoulds su_BadRow_BadRow) (fun _ => rfl) (fun z => nomatch z)) (fun z => nomatch z)) (fun z => nomatch z), kit_ve ive_BadRow, kit_own ecl_BadRow xty_BadRow su_BadRow_BadRow su_BadRow_BadRow, _, PySem.W.mg_of X G g_Row, ⟨mk_Row, a0, i0, kc_Row⟩, ⟨pg_Row, hd_Row, po_Row, sa_Row⟩, nf_Row_kettles, nf_Row_moulds, C11, P11, funC_mk (st := s_p_is_name) l11 c11, C15, P15, funC_mk (st := s_p__can_be_kettles) l15 c15, C16, P16, funC_mk (st := s_p__can_be_moulds) l16 c16⟩
  refine ⟨T.fd_p_law, [(C11, P11), (C15, P15), (C16, P16)], ((List.forall_mem_cons (p := fun (p : Addr × Addr) => ∃ y ∈ (["is_name", "_can_be_kettles", "_can_be_moulds"] : List Str), PySem.W.tabIn K y = some p)).mpr ⟨⟨"is_name", by decide, tabIn_of a11 l11 rfl q11 p11⟩, ((List.forall_mem_cons (p := fun (p : Addr × Addr) => ∃ y ∈ (["is_name", "_can_be_kettles", "_can_be_moulds"] : List Str), PySem.W.tabIn K y = some p)).mpr ⟨⟨"_can_be_kettles", by decide, tabIn_of a15 l15 rfl q15 p15⟩, ((List.forall_mem_cons (p := fun (p : Addr × Addr) => ∃ y ∈ (["is_name", "_can_be_kettles", "_can_be_moulds"] : List Str), PySem.W.tabIn K y = some p)).mpr ⟨⟨"_can_be_moulds", by decide, tabIn_of a16 l16 rfl q16 p16⟩, fun p hp => absurd hp List.not_mem_nil⟩)⟩)⟩), ((List.forall_mem_cons (p := fun (p : Addr × Addr) => K.lookup p.2 = none)).mpr ⟨n11, ((List.forall_mem_cons (p := fun (p : Addr × Addr) => K.lookup p.2 = none)).mpr ⟨n15, ((List.forall_mem_cons (p := fun (p : Addr × Addr) => K.lookup p.2 = none)).mpr ⟨n16, fun p hp => absurd hp List.not_mem_nil⟩)⟩)⟩), fun s v => .of_eq rfl, fun base _ _ B => ?_⟩
  have B : Tabs T base := ⟨B (C11, P11) (by simp), B (C15, P15) (by simp), B (C16, P16) (by simp)⟩
  exact ok_p_law T B
end KR
open PySem PySem.W PyProof.Rows
set_option maxRecDepth 100000 in
set_option maxHeartbeats 0 in
theorem PySem.Challenge.cw_kettlerow_k15_rows_that_cant_stand_holds : PySem.Challenge.rw_kettlerow_k15_rows_that_cant_stand.Holds := by
  w_on; o_law; k_head; (case hw => w_witness2)
  k_fill
  refine KR.walk_ofT (l := PySem.Challenge.rw_kettlerow_k15_rows_that_cant_stand) (n := 63) (k := 13) (x := "_law_script") (sp := fun w Ps => KR.sp_p_law _ Ps) ["is_name", "_can_be_kettles", "_can_be_moulds"] rfl (by decide) rfl ⟨rfl, by decide, by decide⟩ (fun w h Y => PySem.W.kIn_of Y) (by decide +kernel) ?F (fun _ _ _ a ns hl hT hS => ⟨a, ns, rfl, hS, hl, hT, fun _ => rfl⟩)
  case F =>
    intro w mg fa h KX G hmg
    refine' KR.all_mk KX G hmg ?g_Row ?pg_Row ?hd_Row ?po_Row ?sa_Row ?mk_Row ?kc_Row ?nf_Row_kettles ?nf_Row_moulds ?a0 ?l0 ?c0 ?k0 ?i0 ?a1 ?l1 ?c1 ?k1 ?a2 ?l2 ?c2 ?k2 ?a3 ?l3 ?c3 ?k3 ?a4 ?l4 ?c4 ?k4 ?a5 ?l5 ?c5 ?k5 ?a6 ?l6 ?c6 ?k6 ?a7 ?l7 ?c7 ?k7 ?a8 ?l8 ?c8 ?k8 ?a9 ?l9 ?c9 ?k9 ?a10 ?l10 ?c10 ?k10 ?a11 ?l11 ?c11 ?k11 ?q11 ?p11 ?n11 ?a12 ?l12 ?c12 ?k12 ?a13 ?l13 ?c13 ?k13 ?a14 ?l14 ?c14 ?k14 ?a15 ?l15 ?c15 ?k15 ?q15 ?p15 ?n15 ?a16 ?l16 ?c16 ?k16 ?q16 ?p16 ?n16 ?a17 ?l17 ?c17 ?k17 ?a18 ?l18 ?c18 ?k18 ?a19 ?l19 ?c19 ?k19 ?a20 ?l20 ?c20 ?k20 ?a21 ?l21 ?c21 ?k21 ?a22 ?l22 ?c22 ?k22 ?a23 ?l23 ?c23 ?k23 ?a24 ?l24 ?c24 ?k24 ?a25 ?l25 ?c25 ?k25 ?a26 ?l26 ?c26 ?k26 ?a27 ?l27 ?c27 ?k27 ?a28 ?l28 ?c28 ?k28 ?a29 ?l29 ?c29 ?k29 ?a30 ?l30 ?c30 ?k30 ?a31 ?l31 ?c31 ?k31 ?a32 ?l32 ?c32 ?k32 ?a33 ?l33 ?c33 ?k33 ?a34 ?l34 ?c34 ?k34 ?a35 ?l35 ?c35 ?k35 ?a36 ?l36 ?c36 ?k36 ?a37 ?l37 ?c37 ?k37 ?a38 ?l38 ?c38 ?k38 ?a39 ?l39 ?c39 ?k39 ?a40 ?l40 ?c40 ?k40 ?a41 ?l41 ?c41 ?k41 ?a42 ?l42 ?c42 ?k42 ?a43 ?l43 ?c43 ?k43 ?a44 ?l44 ?c44 ?k44 ?a45 ?l45 ?c45 ?k45 ?a46 ?l46 ?c46 ?k46 ?a47 ?l47 ?c47 ?k47 ?z_ValueError ?z_abs ?z_all ?z_bool ?z_dict ?z_divmod ?z_enumerate ?z_int ?z_isinstance ?z_len ?z_list ?z_max ?z_min ?z_range ?z_reversed ?z_set ?z_str ?z_tuple ?z_zip ?z_gcd ?z_MOST_LETTERS ?z_MOST_KETTLES ?z_MOST_MOULDS ?z_MOST_ROOM ?z_MOST_FIRE ?z_MOST_MARK_BOTTOM ?z_MOST_DRIP_BOTTOM ?z_CHUNK ?z_MOST_FIGURES_fractext ?z_MOST_FIGURES_rowtext ?y_BoilError ?y_BadRow ?y_BadKettles ?y_BadMoulds ?y_BadFrac ?xL_BadRow ?xsa_BadRow ?xex_BadRow ?xty_BadRow ?xk_BadRow ?xi_BadRow ?xti_BadRow ?xl_BadRow ?xc_BadRow ?xki_BadRow ?ecl_BadRow ?ega_BadRow ?egg_BadRow ?ecs_BadRow ?ege_BadRow ?etk_BadRow ?eob_BadRow ?edi_BadRow ?efw_BadRow ?ern_BadRow ?efc_BadRow ?efl_BadRow ?xL_BadKettles ?xsa_BadKettles ?xex_BadKettles ?xty_BadKettles ?xk_BadKettles ?xi_BadKettles ?xti_BadKettles ?xl_BadKettles ?xc_BadKettles ?xki_BadKettles ?ecl_BadKettles ?ega_BadKettles ?egg_BadKettles ?ecs_BadKettles ?ege_BadKettles ?etk_BadKettles ?eob_BadKettles ?edi_BadKettles ?efw_BadKettles ?ern_BadKettles ?efc_BadKettles ?efl_BadKettles ?xL_BadMoulds ?xsa_BadMoulds ?xex_BadMoulds ?xty_BadMoulds ?xk_BadMoulds ?xi_BadMoulds ?xti_BadMoulds ?xl_BadMoulds ?xc_BadMoulds ?xki_BadMoulds ?ecl_BadMoulds ?ega_BadMoulds ?egg_BadMoulds ?ecs_BadMoulds ?ege_BadMoulds ?etk_BadMoulds ?eob_BadMoulds ?edi_BadMoulds ?efw_BadMoulds ?ern_BadMoulds ?efc_BadMoulds ?efl_BadMoulds ?xL_BadFrac ?xsa_BadFrac ?xex_BadFrac ?xty_BadFrac ?xk_BadFrac ?xi_BadFrac ?xti_BadFrac ?xl_BadFrac ?xc_BadFrac ?xki_BadFrac ?ecl_BadFrac ?ega_BadFrac ?egg_BadFrac ?ecs_BadFrac ?ege_BadFrac ?etk_BadFrac ?eob_BadFrac ?edi_BadFrac ?efw_BadFrac ?ern_BadFrac ?efc_BadFrac ?efl_BadFrac ?ic_BoilError ?it_BoilError ?ibx ?su_BadRow_BoilError ?su_BadRow_BadRow ?su_BadFrac_BadFrac ?su_BadRow_BadFrac ?su_BadRow_BadKettles ?su_BadRow_BadMoulds ?ive_BadRow
    (case g_Row => k_is)
    (case pg_Row => k_is)
    (case hd_Row => k_is)
    (case po_Row => k_is)
    (case sa_Row => k_is)
    (case mk_Row => k_is)
    (case kc_Row => k_is)
    (case nf_Row_kettles => k_is)
    (case nf_Row_moulds => k_is)
    (case a0 => k_is)
    (case l0 => k_is)
    (case c0 => k_is)
    (case k0 => k_is)
    (case i0 => k_is)
    (case a1 => k_is)
    (case l1 => k_is)
    (case c1 => k_is)
    (case k1 => k_is)
    (case a2 => k_is)
    (case l2 => k_is)
    (case c2 => k_is)
    (case k2 => k_is)
    (case a3 => k_is)
    (case l3 => k_is)
    (case c3 => k_is)
    (case k3 => k_is)
    (case a4 => k_is)
    (case l4 => k_is)
    (case c4 => k_is)
    (case k4 => k_is)
    (case a5 => k_is)
    (case l5 => k_is)
    (case c5 => k_is)
    (case k5 => k_is)
    (case a6 => k_is)
    (case l6 => k_is)
    (case c6 => k_is)
    (case k6 => k_is)
    (case a7 => k_is)
    (case l7 => k_is)
    (case c7 => k_is)
    (case k7 => k_is)
    (case a8 => k_is)
    (case l8 => k_is)
    (case c8 => k_is)
    (case k8 => k_is)
    (case a9 => k_is)
    (case l9 => k_is)
    (case c9 => k_is)
    (case k9 => k_is)
    (case a10 => k_is)
    (case l10 => k_is)
    (case c10 => k_is)
    (case k10 => k_is)
    (case a11 => k_is)
    (case l11 => k_is)
    (case c11 => k_is)
    (case k11 => k_is)
    (case q11 => k_is)
    (case p11 => first | rfl | (with_unfolding_all rfl))
    (case n11 => first | rfl | (with_unfolding_all rfl))
    (case a12 => k_is)
    (case l12 => k_is)
    (case c12 => k_is)
    (case k12 => k_is)
    (case a13 => k_is)
    (case l13 => k_is)
    (case c13 => k_is)
    (case k13 => k_is)
    (case a14 => k_is)
    (case l14 => k_is)
    (case c14 => k_is)
    (case k14 => k_is)
    (case a15 => k_is)
    (case l15 => k_is)
    (case c15 => k_is)
    (case k15 => k_is)
    (case q15 => k_is)
    (case p15 => first | rfl | (with_unfolding_all rfl))
    (case n15 => first | rfl | (with_unfolding_all rfl))
    (case a16 => k_is)
    (case l16 => k_is)
    (case c16 => k_is)
    (case k16 => k_is)
    (case q16 => k_is)
    (case p16 => first | rfl | (with_unfolding_all rfl))
    (case n16 => first | rfl | (with_unfolding_all rfl))
    (case a17 => k_is)
    (case l17 => k_is)
    (case c17 => k_is)
    (case k17 => k_is)
    (case a18 => k_is)
    (case l18 => k_is)
    (case c18 => k_is)
    (case k18 => k_is)
    (case a19 => k_is)
    (case l19 => k_is)
    (case c19 => k_is)
    (case k19 => k_is)
    (case a20 => k_is)
    (case l20 => k_is)
    (case c20 => k_is)
    (case k20 => k_is)
    (case a21 => k_is)
    (case l21 => k_is)
    (case c21 => k_is)
    (case k21 => k_is)
    (case a22 => k_is)
    (case l22 => k_is)
    (case c22 => k_is)
    (case k22 => k_is)
    (case a23 => k_is)
    (case l23 => k_is)
    (case c23 => k_is)
    (case k23 => k_is)
    (case a24 => k_is)
    (case l24 => k_is)
    (case c24 => k_is)
    (case k24 => k_is)
    (case a25 => k_is)
    (case l25 => k_is)
    (case c25 => k_is)
    (case k25 => k_is)
    (case a26 => k_is)
    (case l26 => k_is)
    (case c26 => k_is)
    (case k26 => k_is)
    (case a27 => k_is)
    (case l27 => k_is)
    (case c27 => k_is)
    (case k27 => k_is)
    (case a28 => k_is)
    (case l28 => k_is)
    (case c28 => k_is)
    (case k28 => k_is)
    (case a29 => k_is)
    (case l29 => k_is)
    (case c29 => k_is)
    (case k29 => k_is)
    (case a30 => k_is)
    (case l30 => k_is)
    (case c30 => k_is)
    (case k30 => k_is)
    (case a31 => k_is)
    (case l31 => k_is)
    (case c31 => k_is)
    (case k31 => k_is)
    (case a32 => k_is)
    (case l32 => k_is)
    (case c32 => k_is)
    (case k32 => k_is)
    (case a33 => k_is)
    (case l33 => k_is)
    (case c33 => k_is)
    (case k33 => k_is)
    (case a34 => k_is)
    (case l34 => k_is)
    (case c34 => k_is)
    (case k34 => k_is)
    (case a35 => k_is)
    (case l35 => k_is)
    (case c35 => k_is)
    (case k35 => k_is)
    (case a36 => k_is)
    (case l36 => k_is)
    (case c36 => k_is)
    (case k36 => k_is)
    (case a37 => k_is)
    (case l37 => k_is)
    (case c37 => k_is)
    (case k37 => k_is)
    (case a38 => k_is)
    (case l38 => k_is)
    (case c38 => k_is)
    (case k38 => k_is)
    (case a39 => k_is)
    (case l39 => k_is)
    (case c39 => k_is)
    (case k39 => k_is)
    (case a40 => k_is)
    (case l40 => k_is)
    (case c40 => k_is)
    (case k40 => k_is)
    (case a41 => k_is)
    (case l41 => k_is)
    (case c41 => k_is)
    (case k41 => k_is)
    (case a42 => k_is)
    (case l42 => k_is)
    (case c42 => k_is)
    (case k42 => k_is)
    (case a43 => k_is)
    (case l43 => k_is)
    (case c43 => k_is)
    (case k43 => k_is)
    (case a44 => k_is)
    (case l44 => k_is)
    (case c44 => k_is)
    (case k44 => k_is)
    (case a45 => k_is)
    (case l45 => k_is)
    (case c45 => k_is)
    (case k45 => k_is)
    (case a46 => k_is)
    (case l46 => k_is)
    (case c46 => k_is)
    (case k46 => k_is)
    (case a47 => k_is)
    (case l47 => k_is)
    (case c47 => k_is)
    (case k47 => k_is)
    (case z_ValueError => k_is)
    (case z_abs => k_is)
    (case z_all => k_is)
    (case z_bool => k_is)
    (case z_dict => k_is)
    (case z_divmod => k_is)
    (case z_enumerate => k_is)
    (case z_int => k_is)
    (case z_isinstance => k_is)
    (case z_len => k_is)
    (case z_list => k_is)
    (case z_max => k_is)
    (case z_min => k_is)
    (case z_range => k_is)
    (case z_reversed => k_is)
    (case z_set => k_is)
    (case z_str => k_is)
    (case z_tuple => k_is)
    (case z_zip => k_is)
    (case z_gcd => k_is)
    (case z_MOST_LETTERS => k_is)
    (case z_MOST_KETTLES => k_is)
    (case z_MOST_MOULDS => k_is)
    (case z_MOST_ROOM => k_is)
    (case z_MOST_FIRE => k_is)
    (case z_MOST_MARK_BOTTOM => k_is)
    (case z_MOST_DRIP_BOTTOM => k_is)
    (case z_CHUNK => k_is)
    (case z_MOST_FIGURES_fractext => k_is)
    (case z_MOST_FIGURES_rowtext => k_is)
    (case y_BoilError => k_is)
    (case y_BadRow => k_is)
    (case y_BadKettles => k_is)
    (case y_BadMoulds => k_is)
    (case y_BadFrac => k_is)
    (case xL_BadRow => k_is)
    (case xsa_BadRow => k_is)
    (case xex_BadRow => k_is)
    (case xty_BadRow => k_is)
    (case xk_BadRow => k_is)
    (case xi_BadRow => k_is)
    (case xti_BadRow => k_is)
    (case xl_BadRow => k_is)
    (case xc_BadRow => k_is)
    (case xki_BadRow => k_is)
    (case ecl_BadRow => k_is)
    (case ega_BadRow => k_is)
    (case egg_BadRow => k_is)
    (case ecs_BadRow => k_is)
    (case ege_BadRow => k_is)
    (case etk_BadRow => k_is)
    (case eob_BadRow => k_is)
    (case edi_BadRow => k_is)
    (case efw_BadRow => k_is)
    (case ern_BadRow => k_is)
    (case efc_BadRow => k_is)
    (case efl_BadRow => k_is)
    (case xL_BadKettles => k_is)
    (case xsa_BadKettles => k_is)
    (case xex_BadKettles => k_is)
    (case xty_BadKettles => k_is)
    (case xk_BadKettles => k_is)
    (case xi_BadKettles => k_is)
    (case xti_BadKettles => k_is)
    (case xl_BadKettles => k_is)
    (case xc_BadKettles => k_is)
    (case xki_BadKettles => k_is)
    (case ecl_BadKettles => k_is)
    (case ega_BadKettles => k_is)
    (case egg_BadKettles => k_is)
    (case ecs_BadKettles => k_is)
    (case ege_BadKettles => k_is)
    (case etk_BadKettles => k_is)
    (case eob_BadKettles => k_is)
    (case edi_BadKettles => k_is)
    (case efw_BadKettles => k_is)
    (case ern_BadKettles => k_is)
    (case efc_BadKettles => k_is)
    (case efl_BadKettles => k_is)
    (case xL_BadMoulds => k_is)
    (case xsa_BadMoulds => k_is)
    (case xex_BadMoulds => k_is)
    (case xty_BadMoulds => k_is)
    (case xk_BadMoulds => k_is)
    (case xi_BadMoulds => k_is)
    (case xti_BadMoulds => k_is)
    (case xl_BadMoulds => k_is)
    (case xc_BadMoulds => k_is)
    (case xki_BadMoulds => k_is)
    (case ecl_BadMoulds => k_is)
    (case ega_BadMoulds => k_is)
    (case egg_BadMoulds => k_is)
    (case ecs_BadMoulds => k_is)
    (case ege_BadMoulds => k_is)
    (case etk_BadMoulds => k_is)
    (case eob_BadMoulds => k_is)
    (case edi_BadMoulds => k_is)
    (case efw_BadMoulds => k_is)
    (case ern_BadMoulds => k_is)
    (case efc_BadMoulds => k_is)
    (case efl_BadMoulds => k_is)
    (case xL_BadFrac => k_is)
    (case xsa_BadFrac => k_is)
    (case xex_BadFrac => k_is)
    (case xty_BadFrac => k_is)
    (case xk_BadFrac => k_is)
    (case xi_BadFrac => k_is)
    (case xti_BadFrac => k_is)
    (case xl_BadFrac => k_is)
    (case xc_BadFrac => k_is)
    (case xki_BadFrac => k_is)
    (case ecl_BadFrac => k_is)
    (case ega_BadFrac => k_is)
    (case egg_BadFrac => k_is)
    (case ecs_BadFrac => k_is)
    (case ege_BadFrac => k_is)
    (case etk_BadFrac => k_is)
    (case eob_BadFrac => k_is)
    (case edi_BadFrac => k_is)
    (case efw_BadFrac => k_is)
    (case ern_BadFrac => k_is)
    (case efc_BadFrac => k_is)
    (case efl_BadFrac => k_is)
    (case ic_BoilError => k_is)
    (case it_BoilError => k_is)
    (case ibx => k_is)
    (case su_BadRow_BoilError => k_is)
    (case su_BadRow_BadRow => k_is)
    (case su_BadFrac_BadFrac => k_is)
    (case su_BadRow_BadFrac => k_is)
    (case su_BadRow_BadKettles => k_is)
    (case su_BadRow_BadMoulds => k_is)
    (case ive_BadRow => k_is)
#print axioms PySem.Challenge.cw_kettlerow_k15_rows_that_cant_stand_holds
