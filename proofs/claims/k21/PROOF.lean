import PyProof.Rows.All
import Wide.All
import OpenK.AllK
import Wide.FinOn
import HandS.ForMost
import HandS.Gcd
import HandS.Wide
import HandS.IsInst
import HandS.Zip
import HandS.More
import HandS.Style
import HandS.Rev
import HandS.MapJoin
import HandS.StrMore
import HandS.WideBits
import HandS.TupMul
import HandS.Small
import PyProof.Rows.RegFStrParts
import HandS.Dict
import HandS.DictComp
import KE.KNest
import HandS.AnyAll
import HandS.EndTab
import HandS.GenOver
import HandS.Strs
import HandS.Flow
import HandS.TryOnly
import KE.KExcIs
import HandS.ExcInit
import HandS.ExcField
import HandS.ExcIs
import HandS.WordsExc
import HandS.ExcOwn
import KE.KTypeName
import OpenK.KCls
import PyProof.Rows.CountFlat
import HandS.Iter
import KE.KEqDict
import KE.KRevSl
import PySem.Challenge.RW_kettlerow_k21_skimmed
set_option Elab.async false
set_option linter.all false
set_option maxRecDepth 100000
set_option maxHeartbeats 4000000
/-! ### own rules and words, of no law -/
namespace KR
open PySem PySem.Spec PyProof.Rows L2

/-- * of any two ints whose product is told to fit -/
theorem op_mulX {X : Cx} : OpR X (binaryOp .Mult) (rI IntMulOk fun i j => .int (i * j)) := opI fun _ _ _ _ _ _ _ hc q => mul_int q hc
/-- // by any divisor but 0, to some three thousand figures -/
def DivOk (_ j : Int) : Prop := j ≠ 0 ∧ j.natAbs.log2 < 9000
theorem op_fdivX {X : Cx} : OpR X (binaryOp .FloorDiv) (rI DivOk fun i j => .int (i.fdiv j)) := opI fun _ _ _ _ _ _ _ hc q => floordiv_int hc.1 q (.inl (PyProof.noPylong_of_log2 hc.2))
theorem mulL {i j : Int} (h : i.natAbs < 2 ^ 64) : IntMulOk i j := CMul.ok (.inl ⟨by omega, by omega⟩)
theorem mulR {i j : Int} (h : j.natAbs < 2 ^ 64) : IntMulOk i j := CMul.ok (.inr ⟨by omega, by omega⟩)
theorem mulW {i j : Int} {a b : Nat} (ha : i.natAbs < 2 ^ a) (hb : j.natAbs < 2 ^ b) (h0 : 0 < a) (h1 : 0 < b) (h : a + b ≤ 1000000) : IntMulOk i j := (wide_mul ha hb h0 h1 h).ok
theorem divOk {i j : Int} {b : Nat} (h : j ≠ 0) (hb : j.natAbs < 2 ^ b) (h0 : 0 < b) (h9 : b ≤ 9000) : DivOk i j := ⟨h, Nat.lt_of_lt_of_le (PySem.Flt.log2_lt_of h0 hb) h9⟩
theorem add_lt {i j : Int} {a : Nat} (ha : i.natAbs < 2 ^ a) (hb : j.natAbs < 2 ^ a) : (i + j).natAbs < 2 ^ (a + 1) := by
  rw [Nat.pow_succ]
  omega
theorem sub_lt {i j : Int} {a : Nat} (ha : i.natAbs < 2 ^ a) (hb : j.natAbs < 2 ^ a) : (i - j).natAbs < 2 ^ (a + 1) := by
  rw [Nat.pow_succ]
  omega
theorem lt_up {i : Int} {a b : Nat} (ha : i.natAbs < 2 ^ a) (h : a ≤ b) : i.natAbs < 2 ^ b := Nat.lt_of_lt_of_le ha (Nat.pow_le_pow_right (by decide) h)
theorem bit_lt {c : Prop} [Decidable c] : (if c then (1 : Int) else 0).natAbs < 2 ^ 64 := by split <;> decide
theorem bit_nn {c : Prop} [Decidable c] : (0 : Int) ≤ (if c then (1 : Int) else 0) := by split <;> decide
theorem bit_or {c : Prop} [Decidable c] : (if c then (1 : Int) else 0) = 0 ∨ (if c then (1 : Int) else 0) = 1 := by split <;> simp
theorem small {n : Nat} (h : n ≤ 100000) : n ≤ sizeLine := Nat.le_trans h (by decide)
theorem small' {n : Nat} (h : n < 100000) : n < sizeLine := Nat.lt_of_lt_of_le h (by decide)

/-! the heap but for one object that is written -/
/-- all that was tracked but p is as it was -/
def Fr (p : Addr) (H H' : Hp) : Prop := ∀ b o, b ≠ p → H b = some o → H' b = some o
theorem Fr.refl {p : Addr} {H : Hp} : Fr p H H := fun _ _ _ h => h
theorem Fr.trans {p : Addr} {H H1 H2 : Hp} (a : Fr p H H1) (b : Fr p H1 H2) : Fr p H H2 := fun c o n h => b c o n (a c o n h)
theorem Fr.of {p : Addr} {H H1 : Hp} (a : Same H H1) : Fr p H H1 := fun c o _ h => a c o h
theorem same_new {H : Hp} {p : Addr} {o : HO} (h : H p = none) : Same H (upd H p o) := fun b x e => by
  rw [upd_ne (ne_of_none e h)]
  exact e
theorem Fr.put {p : Addr} {H H1 : Hp} {o : HO} (a : Fr p H H1) : Fr p H (upd H1 p o) := fun c x n h => by
  rw [upd_ne n]
  exact a c x n h
theorem Fr.put' {p q : Addr} {H H1 : Hp} {o : HO} (a : Fr p H H1) (h : H q = none) : Fr p H (upd H1 q o) := fun c x n e => by
  rw [upd_ne (ne_of_none e h)]
  exact a c x n e
/-- what is new there was new ahead of it, if the written one stands -/
theorem Fr.free {p q : Addr} {H H1 : Hp} {o : HO} (a : Fr p H H1) (hp : H1 p = some o) (h : H1 q = none) : H q = none := by
  cases e : H q with
  | none => rfl
  | some u =>
    have n : q ≠ p := fun z => by
      rw [z, hp] at h
      cases h
    rw [a q u n e] at h
    cases h

/-! a reading may be asked for more than is wanted; displays whose new heap is a letter -/
def clA (t : TA) : TA := fun σ H Q => ∃ Q0 : List V → Hp → Prop, (∀ xs H1, Q0 xs H1 → Q xs H1) ∧ t σ H Q0
theorem pa_cl {X : Cx} {es : List Expr} {t : TA} (h : PA X es t) : PA X es (clA t) := ⟨fun pos pins s σ H Q I ⟨Q0, m, q⟩ =>
  thn (h.run pos pins s σ H Q0 I q) fun us s1 ⟨xs, H1, I1, r, z⟩ => ⟨xs, H1, I1, r, m _ _ z⟩⟩
def tTupI (t : TA) : TE := fun σ H Q => t σ H fun xs H1 => Nat.ble xs.length 100000 = true ∧ ∀ p H', Same H1 H' → H1 p = none → H' p = some (.tup xs) → Q (.ref p) H'
def tLstI (t : TA) : TE := fun σ H Q => t σ H fun xs H1 => Nat.ble xs.length 100000 = true ∧ ∀ p H', Same H1 H' → H1 p = none → H' p = some (.lst xs) → Q (.ref p) H'
theorem pe_tupI {X : Cx} {es : List Expr} {k : Nat} {pos : Pos} {t : TA} (h : PA X es t) : PE X (.Tuple es k pos) (tTupI t) := ⟨fun pins s σ H Q I q =>
  (pe_tup (pa_cl h)).run pins s σ H Q I ⟨_, fun _ _ ⟨z, w⟩ => ⟨small (Nat.le_of_ble_eq_true z), fun p hp => w p _ (same_new hp) hp upd_same⟩, q⟩⟩
theorem pe_lstI {X : Cx} {es : List Expr} {pos : Pos} {t : TA} (h : PA X es t) : PE X (.List es pos) (tLstI t) := ⟨fun pins s σ H Q I q =>
  (pe_lst (pa_cl h)).run pins s σ H Q I ⟨_, fun _ _ ⟨z, w⟩ => ⟨small (Nat.le_of_ble_eq_true z), fun p hp => w p _ (same_new hp) hp upd_same⟩, q⟩⟩
/-- ways that join behind a statement: R is what they come to -/
def tJ (t : TS) : TS := fun D σ H => ∃ R : L2.St → Hp → Prop, (∀ σ' H', R σ' H' → D.nx σ' H') ∧ t { D with nx := R } σ H
theorem ps_J {X : Cx} {st : Stmt} {t : TS} (h : PS X st t) : PS X st (tJ t) := ⟨fun pins s σ H D I ⟨R, m, q⟩ => thn (h.run pins s σ H { D with nx := R } I q) fun f s1 z =>
  match f, z with
  | .next, ⟨σ', H', J, r⟩ => ⟨σ', H', J, m _ _ r⟩
  | .ret _, z => z
  | .brk, z => z
  | .cont, z => z⟩
theorem ite_bT {b : Bool} {A B : Prop} (h : b = true) (q : A) : if b = true then A else B := by
  rw [if_pos h]
  exact q
theorem ite_bF {b : Bool} {A B : Prop} (h : b = false) (q : B) : if b = true then A else B := by
  rw [if_neg (by rw [h]; exact Bool.false_ne_true)]
  exact q
theorem ite_iT {i j : Int} {A B : Prop} (h : i = j) (q : A) : if decide (V.int i = V.int j) = true then A else B := by
  rw [if_pos (decide_eq_true (congrArg V.int h))]
  exact q
theorem ite_iF {i j : Int} {A B : Prop} (h : i ≠ j) (q : B) : if decide (V.int i = V.int j) = true then A else B := by
  rw [if_neg (by rw [decide_eq_false fun z => h (V.int.inj z)]; exact Bool.false_ne_true)]
  exact q
theorem ite_nT {i j : Int} {A B : Prop} (h : i ≠ j) (q : A) : if (!decide (V.int i = V.int j)) = true then A else B := by
  rw [if_pos (by rw [decide_eq_false fun z => h (V.int.inj z)] <;> rfl)]
  exact q
theorem ite_nF {i j : Int} {A B : Prop} (h : i = j) (q : B) : if (!decide (V.int i = V.int j)) = true then A else B := by
  rw [if_neg (by rw [decide_eq_true (congrArg V.int h)]; exact Bool.false_ne_true)]
  exact q
/-- the law's box of draws: n is more than have been mixed -/
def BoxAt (H : Hp) (p : Addr) (n : Nat) : Prop := ∃ a b c : Int, H p = some (.lst [.int a, .int b, .int c]) ∧ 0 ≤ a ∧ 0 ≤ b ∧ b < 2 ^ 62 ∧ 0 ≤ c ∧ c ≤ (n : Int)
theorem BoxAt.mono {H : Hp} {p : Addr} {n m : Nat} (h : BoxAt H p n) (le : n ≤ m) : BoxAt H p m := by
  obtain ⟨a, b, c, h1, h2, h3, h4, h5, h6⟩ := h
  exact ⟨a, b, c, h1, h2, h3, h4, h5, by omega⟩
theorem BoxAt.same {H H' : Hp} {p : Addr} {n : Nat} (h : BoxAt H p n) (s : Same H H') : BoxAt H' p n := by
  obtain ⟨a, b, c, h1, h2⟩ := h
  exact ⟨a, b, c, s _ _ h1, h2⟩
theorem BoxAt.some {H : Hp} {p : Addr} {n : Nat} (h : BoxAt H p n) : ∃ o, H p = some o := by
  obtain ⟨a, b, c, h1, _⟩ := h
  exact ⟨_, h1⟩
/-- a pair of ints -/
def PrAt (H : Hp) (q : Addr) (t b : Int) : Prop := H q = some (.tup [.int t, .int b])
theorem at0 {x : V} {xs : List V} : atI (x :: xs) 0 = some x := atI_nat (j := 0) rfl
theorem at1 {x y : V} {xs : List V} : atI (x :: y :: xs) 1 = some y := atI_nat (j := 1) rfl
theorem at2 {x y z : V} {xs : List V} : atI (x :: y :: z :: xs) 2 = some z := atI_nat (j := 2) rfl

/-! fractions -/
/-- the law's own lowest terms -/
def low (t b : Int) : Int × Int := (t / (Nat.gcd t.natAbs b.natAbs : Nat) * (if b < 0 then -1 else 1), (b.natAbs : Int) / (Nat.gcd t.natAbs b.natAbs : Nat))
structure IsLow (t b : Int) : Prop where
  pos : 0 < b
  cop : Nat.gcd t.natAbs b.natAbs = 1
theorem dvd_mul {a b : Int} (h : a ∣ b) : a * (b / a) = b := Int.mul_ediv_cancel' h
theorem low_facts (t b : Int) (hb : b ≠ 0) : IsLow (low t b).1 (low t b).2 ∧ t * (low t b).2 = (low t b).1 * b := by
  have hg : 0 < Nat.gcd t.natAbs b.natAbs := Nat.gcd_pos_of_pos_right _ (by omega)
  generalize e : Nat.gcd t.natAbs b.natAbs = g at hg
  have d1 : g ∣ t.natAbs := e ▸ Nat.gcd_dvd_left _ _
  have d2 : g ∣ b.natAbs := e ▸ Nat.gcd_dvd_right _ _
  obtain ⟨x, hx⟩ := d1
  obtain ⟨y, hy⟩ := d2
  have hc : Nat.gcd x y = 1 := by
    rw [hx, hy, Nat.gcd_mul_left] at e
    exact Nat.eq_of_mul_eq_mul_left hg (by rw [e, Nat.mul_one])
  have hy0 : 0 < y := by
    rcases Nat.eq_zero_or_pos y with z | z
    · rw [z, Nat.mul_zero] at hy
      omega
    · exact z
  have h2 : (low t b).2 = (y : Int) := by
    show (b.natAbs : Int) / (Nat.gcd t.natAbs b.natAbs : Nat) = (y : Int)
    rw [e, hy, Int.natCast_mul]
    exact Int.mul_ediv_cancel_left _ (by omega)
  have ht : t = (g : Int) * x ∨ t = -((g : Int) * x) := by
    have q : (t.natAbs : Int) = (g : Int) * x := by rw [hx, Int.natCast_mul]
    omega
  have hbb : (b.natAbs : Int) = (g : Int) * y := by rw [hy, Int.natCast_mul]
  have h1 : (low t b).1 = (t / (g : Int)) * (if b < 0 then -1 else 1) := by
    show t / (Nat.gcd t.natAbs b.natAbs : Nat) * (if b < 0 then -1 else 1) = _
    rw [e]
  have h3 : t / (g : Int) = x ∨ t / (g : Int) = -(x : Int) := by
    rcases ht with q | q
    · left
      rw [q]
      exact Int.mul_ediv_cancel_left _ (by omega)
    · right
      rw [q, ← Int.mul_neg]
      exact Int.mul_ediv_cancel_left _ (by omega)
  have h4 : (g : Int) * (t / (g : Int)) = t := dvd_mul (by
    rcases ht with q | q
    · exact ⟨x, q⟩
    · exact ⟨-x, by rw [q, Int.mul_neg]⟩)
  refine ⟨⟨by rw [h2]; omega, ?_⟩, ?_⟩
  · rw [h2, h1]
    have q : ((t / (g : Int)) * (if b < 0 then -1 else 1)).natAbs = x := by
      split <;> rcases h3 with z | z <;> rw [z] <;> omega
    rw [q]
    exact hc
  · rw [h2, h1]
    by_cases c : b < 0
    · rw [if_pos c]
      have q : b = -((g : Int) * y) := by omega
      grind
    · rw [if_neg c]
      have q : b = (g : Int) * y := by omega
      grind
/-- two fractions in lowest terms that are alike across are one -/
theorem isLow_uniq {x y u v : Int} (h : IsLow x y) (k : IsLow u v) (e : x * v = u * y) : x = u ∧ y = v := by
  have h1 := h.pos
  have k1 := k.pos
  have e1 : x.natAbs * v.natAbs = u.natAbs * y.natAbs := by rw [← Int.natAbs_mul, ← Int.natAbs_mul, e]
  have d1 : y.natAbs ∣ v.natAbs := (Nat.Coprime.symm h.cop).dvd_of_dvd_mul_left (by rw [e1]; exact Nat.dvd_mul_left _ _)
  have d2 : v.natAbs ∣ y.natAbs := (Nat.Coprime.symm k.cop).dvd_of_dvd_mul_left (by rw [← e1]; exact Nat.dvd_mul_left _ _)
  have e2 : y.natAbs = v.natAbs := Nat.dvd_antisymm d1 d2
  have e3 : y = v := by omega
  subst e3
  exact ⟨Int.eq_of_mul_eq_mul_right (by omega) e, rfl⟩
theorem low_eq {t b x y : Int} (hb : b ≠ 0) (h : IsLow x y) (e : t * y = x * b) : low t b = (x, y) := by
  obtain ⟨h1, h2⟩ := low_facts t b hb
  have q : (low t b).1 * y = x * (low t b).2 := by
    have z : b * ((low t b).1 * y) = b * (x * (low t b).2) := by grind
    exact Int.eq_of_mul_eq_mul_left hb z
  obtain ⟨a1, a2⟩ := isLow_uniq h1 h q
  exact Prod.ext a1 a2
theorem low_le (t b : Int) : (low t b).1.natAbs ≤ t.natAbs ∧ (low t b).2.natAbs ≤ b.natAbs := by
  generalize e : Nat.gcd t.natAbs b.natAbs = g
  have h1 : (low t b).1 = (t / (g : Int)) * (if b < 0 then -1 else 1) := by
    show t / (Nat.gcd t.natAbs b.natAbs : Nat) * (if b < 0 then -1 else 1) = _
    rw [e]
  have h2 : (low t b).2 = (b.natAbs : Int) / (g : Int) := by
    show (b.natAbs : Int) / (Nat.gcd t.natAbs b.natAbs : Nat) = _
    rw [e]
  have d1 : (g : Int) ∣ t := e ▸ Int.ofNat_dvd_left.mpr (Nat.gcd_dvd_left _ _)
  constructor
  · rw [h1]
    have q : (t / (g : Int) * (if b < 0 then -1 else 1)).natAbs = (t / (g : Int)).natAbs := by
      split <;> omega
    rw [q]
    obtain ⟨z, rfl⟩ := d1
    by_cases c : (g : Int) = 0
    · rw [c, Int.zero_mul, Int.zero_ediv]
      omega
    · rw [Int.mul_ediv_cancel_left _ c, Int.natAbs_mul]
      exact Nat.le_mul_of_pos_left _ (by omega)
  · rw [h2, ← Int.natCast_ediv, Int.natAbs_natCast]
    exact Nat.div_le_self _ _
theorem low_lt {t b : Int} {n : Nat} (h1 : t.natAbs < 2 ^ n) (h2 : b.natAbs < 2 ^ n) : (low t b).1.natAbs < 2 ^ n ∧ (low t b).2.natAbs < 2 ^ n :=
  ⟨Nat.lt_of_le_of_lt (low_le t b).1 h1, Nat.lt_of_le_of_lt (low_le t b).2 h2⟩
/-- a fraction in lowest terms, of fewer than sixty figures -/
structure FrAt (H : Hp) (x : Addr) (a b : Int) : Prop where
  at_ : H x = some (.tup [.int a, .int b])
  low : IsLow a b
  ta : a.natAbs < 2 ^ 200
  tb : b.natAbs < 2 ^ 200
/-- a new pair of two numbers' lowest terms -/
def sp_low : Sp := fun vs H Q _ => ∃ t b : Int, vs = [.int t, .int b] ∧ b ≠ 0 ∧ t.natAbs < 2 ^ 2000 ∧ b.natAbs < 2 ^ 2000 ∧ ∀ p H', Same H H' → H p = none → H' p = some (.tup [.int (low t b).1, .int (low t b).2]) → Q (.ref p) H'
/-- two pairs in, low of what f and g say of them out -/
def sp_two (K : PySem.W.Frag) (f g : Int → Int → Int → Int → Int) : Sp := fun vs H Q _ => ∃ (x y : Addr) (a b c d : Int), vs = [.ref x, .ref y] ∧ SqT K H x [.int a, .int b] ∧ SqT K H y [.int c, .int d] ∧ g a b c d ≠ 0 ∧ a.natAbs < 2 ^ 900 ∧ b.natAbs < 2 ^ 900 ∧ c.natAbs < 2 ^ 900 ∧ d.natAbs < 2 ^ 900 ∧
  ∀ p H', Same H H' → H p = none → H' p = some (.tup [.int (low (f a b c d) (g a b c d)).1, .int (low (f a b c d) (g a b c d)).2]) → Q (.ref p) H'
/-- by a divisor turned about -/
theorem fdiv_neg {t g : Int} (h : g ∣ t) : t.fdiv (-g) = t / g * -1 := by
  obtain ⟨z, rfl⟩ := h
  by_cases c : g = 0
  · subst c
    simp
  · rw [Int.mul_ediv_cancel_left _ c, show g * z = (-g) * (-z) by grind, Int.mul_fdiv_cancel_left _ (by omega)]
    omega

/-! data of the law's own making, n deep -/
theorem Same.put {H0 H : Hp} {D : Addr} {o : HO} (s : Same H0 H) (h : H0 D = none) : Same H0 (upd H D o) := fun b u e => by
  rw [upd_ne (ne_of_none e h)]
  exact s b u e
inductive Dt (H : Hp) : Nat → V → PyData → Prop
  | non (n : Nat) : Dt H (n + 1) .non .none
  | bl (n : Nat) (b : Bool) : Dt H (n + 1) (.bl b) (.bool b)
  | int (n : Nat) (i : Int) : Dt H (n + 1) (.int i) (.int i)
  | str (n : Nat) (x : Str) (ok : PyData.canLay0 (.str x) = true) : Dt H (n + 1) (.str x) (.str x)
  | lst {n : Nat} {a : Addr} {xs : List V} {ds : List PyData} : H a = some (.lst xs) → xs.length = ds.length → xs.length ≤ 100000 → (∀ (i : Nat) (x : V) (d : PyData), xs[i]? = some x → ds[i]? = some d → Dt H n x d) → Dt H (n + 1) (.ref a) (.list ds)
  | tup {n : Nat} {a : Addr} {xs : List V} {ds : List PyData} : H a = some (.tup xs) → xs.length = ds.length → xs.length ≤ 100000 → (∀ (i : Nat) (x : V) (d : PyData), xs[i]? = some x → ds[i]? = some d → Dt H n x d) → Dt H (n + 1) (.ref a) (.tuple ds)
theorem Dt.up {H : Hp} {n m : Nat} {v : V} {d : PyData} (h : Dt H n v d) : n ≤ m → Dt H m v d := by
  intro le
  induction h generalizing m with
  | non n => obtain ⟨k, rfl⟩ : ∃ k, m = k + 1 := ⟨m - 1, by omega⟩; exact .non k
  | bl n b => obtain ⟨k, rfl⟩ : ∃ k, m = k + 1 := ⟨m - 1, by omega⟩; exact .bl k b
  | int n i => obtain ⟨k, rfl⟩ : ∃ k, m = k + 1 := ⟨m - 1, by omega⟩; exact .int k i
  | str n x ok => obtain ⟨k, rfl⟩ : ∃ k, m = k + 1 := ⟨m - 1, by omega⟩; exact .str k x ok
  | lst h1 h2 h3 _ ih => obtain ⟨k, rfl⟩ : ∃ k, m = k + 1 := ⟨m - 1, by omega⟩; exact .lst h1 h2 h3 fun i x d a b => ih i x d a b (by omega)
  | tup h1 h2 h3 _ ih => obtain ⟨k, rfl⟩ : ∃ k, m = k + 1 := ⟨m - 1, by omega⟩; exact .tup h1 h2 h3 fun i x d a b => ih i x d a b (by omega)
/-- a comprehension over pairs: J hands out a new tuple of px i and py i at each of n turns, while St stands -/
theorem lc_pair {J : It} {n : Nat} {St : Hp → Prop} {px py : Nat → V} (hgo : ∀ i H, i < n → St H → J.go i H) (hst : ∀ H, St H → J.stop n H)
    (hy : ∀ i H v H', i < n → St H → J.yld i H v H' → ∃ T, v = .ref T ∧ H T = none ∧ H' = upd H T (.tup [px i, py i]))
    {g : TG} {tt : TT} {te : TE} {vs : List Nat} {σ : L2.St} {H1 : Hp} {D : Addr} {Qd : Hp → Prop} (Pv : Nat → Hp → Prop) (h0 : Pv 0 (upd H1 D (.lst []))) (hq : ∀ i H, i ≤ n → Pv i H → St H)
    (hs : ∀ i T H, i < n → Pv i H → H T = none → g (.ref T) (wipe σ vs) (upd H T (.tup [px i, py i])) fun σ2 H2 => wipe σ2 vs = wipe σ vs ∧ tt σ2 H2 fun b H3 =>
      if b = true then te σ2 H3 fun y H4 => ∃ acc, H4 D = some (.lst acc) ∧ acc.length < sizeLine ∧ Pv (i + 1) (upd H4 D (.lst (acc ++ [y]))) else Pv (i + 1) H3) (hd : ∀ H, Pv n H → Qd H) :
    ∃ W : Nat → Nat → Hp → Prop, (∃ m, W 0 m (upd H1 D (.lst []))) ∧ ∀ i m H, W i m H →
      (J.stop i H ∧ Qd H) ∨ (J.go i H ∧ ∃ Nx : Hp → Prop, (∀ H', Nx H' → ∃ m', m' < m ∧ W (i + 1) m' H') ∧ ∀ x H', J.yld i H x H' → g x (wipe σ vs) H' fun σ2 H2 => wipe σ2 vs = wipe σ vs ∧ tt σ2 H2 fun b H3 =>
        if b = true then te σ2 H3 fun y H4 => ∃ acc, H4 D = some (.lst acc) ∧ acc.length < sizeLine ∧ Nx (upd H4 D (.lst (acc ++ [y]))) else Nx H3) := by
  refine ⟨fun i m H => i + m = n ∧ Pv i H, ⟨n, by omega, h0⟩, fun i m H w => ?_⟩
  obtain ⟨e, p⟩ := w
  have q := hq i H (by omega) p
  rcases Nat.lt_or_ge i n with lt | ge
  · refine Or.inr ⟨hgo i H lt q, Pv (i + 1), fun H' p' => ⟨m - 1, by omega, by omega, p'⟩, fun x H' y => ?_⟩
    obtain ⟨T, rfl, nT, rfl⟩ := hy i H x H' lt q y
    exact hs i T H lt p nT
  · obtain rfl : i = n := by omega
    exact Or.inl ⟨hst H q, hd H p⟩
theorem zipL_go {K : PySem.W.Frag} {a b : Addr} {xs ys : List V} {n : Nat} (h1 : xs.length = n) (h2 : ys.length = n) {i : Nat} {H : Hp} (lt : i < n) (q : SqL K H a xs ∧ SqL K H b ys) : (Itz K a b).go i H :=
  ⟨xs, ys, _, _, q.1, q.2, List.getElem?_eq_getElem (by omega), List.getElem?_eq_getElem (by omega)⟩
theorem zipL_stop {K : PySem.W.Frag} {a b : Addr} {xs ys : List V} {n : Nat} (h1 : xs.length = n) {H : Hp} (q : SqL K H a xs ∧ SqL K H b ys) : (Itz K a b).stop n H := ⟨xs, ys, q.1, q.2, .inl (by omega)⟩
theorem zipL_yld {K : PySem.W.Frag} {a b : Addr} {xs ys : List V} {n : Nat} (h1 : xs.length = n) (h2 : ys.length = n) {i : Nat} {H H' : Hp} {v : V} (lt : i < n) (q : SqL K H a xs ∧ SqL K H b ys) (y : (Itz K a b).yld i H v H') :
    ∃ T, v = .ref T ∧ H T = none ∧ H' = upd H T (.tup [xs.getD i .non, ys.getD i .non]) := by
  obtain ⟨T, x, y, rfl, nT, rfl, f1, f2⟩ := y
  refine ⟨T, rfl, nT, ?_⟩
  rw [List.getD_eq_getElem?_getD, List.getD_eq_getElem?_getD, f1 _ q.1, f2 _ q.2] <;> rfl
theorem zipT_go {K : PySem.W.Frag} {a b : Addr} {xs ys : List V} {n : Nat} (h1 : xs.length = n) (h2 : ys.length = n) {i : Nat} {H : Hp} (lt : i < n) (q : SqT K H a xs ∧ SqT K H b ys) : (RZ.ItzT K a b).go i H :=
  ⟨xs, ys, _, _, q.1, q.2, List.getElem?_eq_getElem (by omega), List.getElem?_eq_getElem (by omega)⟩
theorem zipT_stop {K : PySem.W.Frag} {a b : Addr} {xs ys : List V} {n : Nat} (h1 : xs.length = n) {H : Hp} (q : SqT K H a xs ∧ SqT K H b ys) : (RZ.ItzT K a b).stop n H := ⟨xs, ys, q.1, q.2, .inl (by omega)⟩
theorem zipT_yld {K : PySem.W.Frag} {a b : Addr} {xs ys : List V} {n : Nat} (h1 : xs.length = n) (h2 : ys.length = n) {i : Nat} {H H' : Hp} {v : V} (lt : i < n) (q : SqT K H a xs ∧ SqT K H b ys) (y : (RZ.ItzT K a b).yld i H v H') :
    ∃ T, v = .ref T ∧ H T = none ∧ H' = upd H T (.tup [xs.getD i .non, ys.getD i .non]) := by
  obtain ⟨T, x, y, rfl, nT, rfl, f1, f2⟩ := y
  refine ⟨T, rfl, nT, ?_⟩
  rw [List.getD_eq_getElem?_getD, List.getD_eq_getElem?_getD, f1 _ q.1, f2 _ q.2] <;> rfl
theorem getD_of {xs : List V} {i : Nat} (h : i < xs.length) : xs[i]? = some (xs.getD i .non) := by
  rw [List.getD_eq_getElem?_getD, List.getElem?_eq_getElem h] <;> rfl
theorem yesT {σ : L2.St} {H : Hp} {A B : Hp → Prop} (h : A H) : tYes σ H fun b H3 => if b = true then A H3 else B H3 := iteT (A := A H) (B := B H) h
/-- True so often -/
theorem all_true (n : Nat) : (List.replicate n true).map V.bl = List.replicate n (V.bl true) ∧ (List.replicate n true).all id = true := by
  refine ⟨List.map_replicate, ?_⟩
  induction n with
  | zero => rfl
  | succ n ih => rw [List.replicate_succ, List.all_cons, ih] <;> rfl

/-- a def of the text, where it stands and how it is called -/
structure Def (K : PySem.W.Frag) (mg : Str → Option Value) (name : Str) (st : Stmt) (f : Addr) (fd : FuncData) (ps : List Str) : Prop where
  fn : Fun K name name st f fd
  mg : mg name = some (.ref f)
  b : Binds K fd ps []
/-! rules whose written part is a letter -/
section
variable {X : Cx} {K : PySem.W.Frag}
theorem ixL (h : X.K = K) : IxR X (rIxL K) := h ▸ ix_list
theorem ixT (h : X.K = K) : IxR X (rIxT K) := h ▸ ix_tup
def rLenQ (K : PySem.W.Frag) : List V → Hp → VK → Prop := fun xs H Q => ∃ p ys, xs = [.ref p] ∧ (SqL K H p ys ∨ SqT K H p ys) ∧ Q (.int (ys.length : Nat)) H
theorem lenQ (h : X.K = K) : CallR X (.builtin "len") (rLenQ K) := h ▸ call_len_seq
def rLenA (K : PySem.W.Frag) : List V → Hp → VK → Prop := fun xs H Q => ∃ x n, xs = [x] ∧ LenV K x H n ∧ Q (.int (n : Nat)) H
theorem lenA (h : X.K = K) : CallR X (.builtin "len") (rLenA K) := h ▸ call_len
theorem isiK (h : X.K = K) : CallR X (.builtin "isinstance") (rIsi K) := h ▸ call_isi
theorem isiTK (h : X.K = K) : CallR X (.builtin "isinstance") (rIsiT K) := h ▸ call_isiT
theorem allK (h : X.K = K) (hc : X.calm = true) : CallR X (.builtin "all") (rAll K) := h ▸ cr_all hc
theorem eqDK (h : X.K = K) (hu : X.A.units + 64 < cLine) : OpR X (compareOp .Eq) (rEqD K) := h ▸ op_eqD hu
theorem neDK (h : X.K = K) (hu : X.A.units + 64 < cLine) : OpR X (compareOp .NotEq) (rNeD K) := h ▸ op_neD hu
theorem pi_listK {tg l : Expr} {tl : TE} (h : X.K = K) (hl : PE X l tl) : PI X tg l (iList K tl) := h ▸ pi_list hl
theorem pi_tupK {tg l : Expr} {tl : TE} (h : X.K = K) (hl : PE X l tl) : PI X tg l (iTup K tl) := h ▸ pi_tup hl
theorem pi_zipK {e e2 : Expr} {ta : TA} {p pos tpos : Pos} {elts : List Expr} {kk : Nat} (h : X.K = K) (hg : Gl X "zip") (hm : X.mg "zip" = none) (ha : PA X [e, e2] ta)
    (hs : starEach [e, e2] X.env = (false, eval e X.env) :: starEach [e2] X.env := by rfl) (hpl : (backTo pos (starEach [e2] X.env)).any (·.1) = false := by rfl) :
    PI X (.Tuple elts kk tpos) (.Call (.Name "zip" p) [e, e2] [] pos) (RZ.iZipA K ta) := h ▸ RZ.pi_zipA hg hm ha hs hpl
theorem pg_tupK {es : List Expr} {k : Nat} {pos : Pos} {t : TGs} {n : Nat} (h : X.K = K) (hc : X.calm = true) (ht : PGs X es t) (hn : (assignEach es X.env).length = n := by rfl) (hst : (assignEach es X.env).findIdx? (·.1) = none := by rfl) :
    PG X (.Tuple es k pos) (gTup K n t) := h ▸ pg_tup hc ht hn hst
/-- a new slice, a new list of what a thing holds -/
def rSlLI (K : PySem.W.Frag) : V → Option Int → Option Int → Hp → VK → Prop := fun x lo hi H Q => ∃ a xs, x = .ref a ∧ SqL K H a xs ∧ ∀ p H', Same H H' → H p = none → H' p = some (.lst (cutV xs lo hi)) → Q (.ref p) H'
theorem slL (h : X.K = K) : SlR X (rSlLI K) := fun pins s σ H x v vl vu lo hi sl Q I rx hs pl pu ⟨a, xs, e, q, k⟩ =>
  sl_list pins s σ H x v vl vu lo hi sl Q I rx hs pl pu ⟨a, xs, e, h ▸ q, fun p hp => k p _ (same_new hp) hp upd_same⟩
def rListI (K : PySem.W.Frag) : List V → Hp → VK → Prop := fun xs H Q => ∃ p ys, xs = [.ref p] ∧ (SqL K H p ys ∨ SqT K H p ys) ∧ ∀ l H', Same H H' → H l = none → H' l = some (.lst ys) → Q (.ref l) H'
theorem listI (h : X.K = K) : CallR X (.type "list") (rListI K) := fun pins s σ H xs us Q I r ⟨p, ys, e, q, k⟩ =>
  call_list_of pins s σ H xs us Q I r ⟨p, ys, e, h ▸ q, fun l hl => k l _ (same_new hl) hl upd_same⟩
end
/-! lists of fractions: addresses, tops, bottoms -/
abbrev Fq := Addr × Int × Int
def refs (l : List Fq) : List V := l.map fun z => V.ref z.1
def dat (z : Fq) : PyData := .tuple [.int z.2.1, .int z.2.2]
structure FqAt (H : Hp) (n : Nat) (z : Fq) : Prop where
  at_ : H z.1 = some (.tup [.int z.2.1, .int z.2.2])
  low : IsLow z.2.1 z.2.2
  ta : z.2.1.natAbs ≤ 10 ^ 41 + n
  tb : z.2.2.natAbs ≤ 10 ^ 41 + n
def FrL (H : Hp) (n : Nat) (l : List Fq) : Prop := ∀ z ∈ l, FqAt H n z
theorem eqv_pair {a b c d : Int} : PyData.eqv (.tuple [.int a, .int b]) (.tuple [.int c, .int d]) = decide (a = c ∧ b = d) := by
  show ((a == c) && ((b == d) && true)) = decide (a = c ∧ b = d)
  rw [Bool.and_true, Bool.decide_and]
  rfl
/-! data of any make beside the box p -/
inductive Da (p : Addr) (H : Hp) : Nat → V → PyData → Prop
  | non (n : Nat) : Da p H (n + 1) .non .none
  | bl (n : Nat) (b : Bool) : Da p H (n + 1) (.bl b) (.bool b)
  | int (n : Nat) (i : Int) : Da p H (n + 1) (.int i) (.int i)
  | str (n : Nat) (x : Str) : Da p H (n + 1) (.str x) (.str x)
  | lst {n : Nat} {a : Addr} {xs : List V} {ds : List PyData} : a ≠ p → H a = some (.lst xs) → xs.length = ds.length → xs.length ≤ 100000 → (∀ (i : Nat) (x : V) (d : PyData), xs[i]? = some x → ds[i]? = some d → Da p H n x d) → Da p H (n + 1) (.ref a) (.list ds)
  | tup {n : Nat} {a : Addr} {xs : List V} {ds : List PyData} : a ≠ p → H a = some (.tup xs) → xs.length = ds.length → xs.length ≤ 100000 → (∀ (i : Nat) (x : V) (d : PyData), xs[i]? = some x → ds[i]? = some d → Da p H n x d) → Da p H (n + 1) (.ref a) (.tuple ds)
theorem Da.up {p : Addr} {H : Hp} {n m : Nat} {v : V} {d : PyData} (h : Da p H n v d) : n ≤ m → Da p H m v d := by
  intro le
  induction h generalizing m with
  | non n => obtain ⟨k, rfl⟩ : ∃ k, m = k + 1 := ⟨m - 1, by omega⟩; exact .non k
  | bl n b => obtain ⟨k, rfl⟩ : ∃ k, m = k + 1 := ⟨m - 1, by omega⟩; exact .bl k b
  | int n i => obtain ⟨k, rfl⟩ : ∃ k, m = k + 1 := ⟨m - 1, by omega⟩; exact .int k i
  | str n x => obtain ⟨k, rfl⟩ : ∃ k, m = k + 1 := ⟨m - 1, by omega⟩; exact .str k x
  | lst h0 h1 h2 h3 _ ih => obtain ⟨k, rfl⟩ : ∃ k, m = k + 1 := ⟨m - 1, by omega⟩; exact .lst h0 h1 h2 h3 fun i x d a b => ih i x d a b (by omega)
  | tup h0 h1 h2 h3 _ ih => obtain ⟨k, rfl⟩ : ∃ k, m = k + 1 := ⟨m - 1, by omega⟩; exact .tup h0 h1 h2 h3 fun i x d a b => ih i x d a b (by omega)
/-- each of a row is such data -/
def AllDa (p : Addr) (H : Hp) (n : Nat) (xs : List V) : Prop := ∀ x ∈ xs, ∃ d, Da p H n x d
theorem AllDa.nil {p : Addr} {H : Hp} {n : Nat} : AllDa p H n [] := fun x hx => absurd hx List.not_mem_nil
theorem AllDa.cons {p : Addr} {H : Hp} {n : Nat} {x : V} {xs : List V} (h : ∃ d, Da p H n x d) (t : AllDa p H n xs) : AllDa p H n (x :: xs) := fun y hy => by
  rcases List.mem_cons.mp hy with e | e
  · rw [e]
    exact h
  · exact t y e
theorem AllDa.one {p : Addr} {H : Hp} {n m : Nat} {x : V} (h : ∃ d, Da p H n x d) (le : n ≤ m) : AllDa p H m [x] := .cons (h.elim fun d q => ⟨d, q.up le⟩) .nil
theorem BoxAt.new {H : Hp} {p a : Addr} {n : Nat} (h : BoxAt H p n) (e : H a = none) : a ≠ p := by
  obtain ⟨o, ho⟩ := h.some
  exact (ne_of_none ho e).symm
/-- which kinds of built-in classes a data is of -/
def isTupD : PyData → Bool
  | .tuple _ => true
  | _ => false
def isIntD : PyData → Bool
  | .int _ => true
  | .bool _ => true
  | _ => false
def isBoolD : PyData → Bool
  | .bool _ => true
  | _ => false
def isListD : PyData → Bool
  | .list _ => true
  | _ => false
def isStrD : PyData → Bool
  | .str _ => true
  | _ => false
structure Kinds (K : PySem.W.Frag) (H : Hp) (v : V) (d : PyData) (t : String) : Prop where
  ty : TyX K H v (.type t)
  tup : kitB t "tuple" = some (isTupD d)
  lst : kitB t "list" = some (isListD d)
  int : kitB t "int" = some (isIntD d)
  bool : kitB t "bool" = some (isBoolD d)
  str : kitB t "str" = some (isStrD d)
/-- xs + ys, a new list -/
def rCatI : R2 := fun x y H Q => ∃ l b xs zs, x = .ref l ∧ y = .ref b ∧ H l = some (.lst xs) ∧ H b = some (.lst zs) ∧ xs.length + zs.length ≤ sizeLine ∧ ∀ p H', Same H H' → H p = none → H' p = some (.lst (xs ++ zs)) → Q (.ref p) H'
theorem op_catI {X : Cx} : OpR X (binaryOp .Add) rCatI := fun pins s σ H x y v u Q I rx ry ⟨l, b, xs, zs, e1, e2, h1, h2, z, k⟩ =>
  op_cat pins s σ H x y v u Q I rx ry ⟨l, b, xs, zs, e1, e2, h1, h2, z, fun p hp => k p _ (same_new hp) hp upd_same⟩
/-- a number; a fraction -/
def isNumD (d : PyData) : Bool := isIntD d && !isBoolD d
def isFracD : PyData → Bool
  | .tuple [.int t, .int b] => decide (0 < b) && decide (Nat.gcd t.natAbs b.natAbs = 1)
  | _ => false
theorem frac_no {d e : PyData} (h : isNumD d = false ∨ isNumD e = false) : isFracD (.tuple [d, e]) = false := by
  cases d <;> cases e <;> first | rfl | (rcases h with h | h <;> cases h)
theorem frac_len {ds : List PyData} (h : ds.length ≠ 2) : isFracD (.tuple ds) = false := by
  match ds, h with
  | [], _ => rfl
  | [d], _ => cases d <;> rfl
  | [_, _], h => exact absurd rfl h
  | d :: e :: _ :: _, _ => cases d <;> cases e <;> rfl
theorem take_one {α : Type} {l : List α} {i : Nat} {x : α} (h : l[i]? = some x) : l.take (i + 1) = l.take i ++ [x] := by
  rw [List.take_add_one, h] <;> rfl
end KR
/-! ### texts -/
namespace KR
open PySem PySem.Spec PyProof.Rows L2
section
variable {X : Cx} {K : PySem.W.Frag}
/-- sep.join(reversed(xs)), xs a list of texts -/
def tJoinRev (K : PySem.W.Frag) (to te : TE) : TE := fun σ H Q => to σ H fun x H1 => (∃ a, x = .str a) ∧ te σ H1 fun v H2 => ∃ (a : Str) (q : Addr) (ys : List Str), x = .str a ∧ v = .ref q ∧ SqL K H2 q (ys.map V.str) ∧ (ys.map (·.length)).sum + ys.length * a.length ≤ 16777216 ∧ Q (.str (Txt.join a ys.reverse)) H2
end
/-! texts as rows of codes -/
abbrev S (l : List Nat) : Str := ⟨l.toArray⟩
theorem S_len (l : List Nat) : (S l).length = l.length := by rw [TL.len_tl]
/-- text times a number from 0 -/
theorem op_mul_str {X : Cx} : OpR X (binaryOp .Mult) (fun x y H Q => ∃ (a : Str) (n : Nat), x = .str a ∧ y = .int (n : Int) ∧ a.length * n ≤ 100000 ∧ n ≤ 100000 ∧ Q (.str (Txt.mul a n)) H) := by
  intro pins s σ H x y v u Q I rx ry h
  obtain ⟨a, n, rfl, rfl, hz, hn, q⟩ := h
  obtain ⟨t, rfl⟩ := rx
  obtain ⟨t', rfl⟩ := ry
  refine SB.mul ⟨?_, fun h1 h2 => ?_, fun h1 h2 => ?_⟩ fun t2 k => ⟨.str _, H, I.tok _, ⟨_, rfl⟩, q⟩
  · rw [decide_eq_false (by omega), decide_eq_false (by omega)] <;> rfl
  · have n1 : (1 : Int) ≤ (n : Int) := by omega
    intro bad
    have b2 : ((2 ^ 63 - 1 : Int)) / (n : Int) ≥ (2 ^ 63 - 1 : Int) / 100000 := by
      refine Int.le_ediv_of_mul_le (by omega) ?_
      have e : (2 ^ 63 - 1 : Int) / 100000 * (n : Int) ≤ (2 ^ 63 - 1 : Int) / 100000 * 100000 := Int.mul_le_mul_of_nonneg_left (by omega) (by decide)
      exact Int.le_trans e (by decide)
    have a9 : a.length ≤ 100000 := by
      have : a.length * 1 ≤ a.length * n := Nat.mul_le_mul_left _ (by omega)
      omega
    have e3 : (2 ^ 63 - 1 : Int) / 100000 = 92233720368547 := by decide
    omega
  · rw [Int.toNat_natCast]
    exact decide_eq_false (by have := small hz; omega)
/-- one to so many figures -/
def figs (l : List Nat) : Bool := !l.isEmpty && l.all fun c => decide (48 ≤ c) && decide (c ≤ 57)
/-- a fraction's text -/
def fracL (t b : Int) : List Nat := (if t < 0 then [45] else []) ++ (TL.numL t.natAbs ++ (if b = 1 then [] else 47 :: TL.numL b.natAbs))
/-- ahead of the first stroke, whether there is one, behind it -/
def cutL : List Nat → List Nat × Bool × List Nat
  | [] => ([], false, [])
  | c :: r => if c = 47 then ([], true, r) else (c :: (cutL r).1, (cutL r).2)
end KR
/-! ### defs that ask repr: no repr is under way around them -/
namespace KR
open PySem PySem.Spec PyProof.Rows L2
section
variable {P : Program} {w : World} {K : PySem.W.Frag} {mg : Str → Option Value} {base : Heap}
structure FnG (P : Program) (w : World) (K : PySem.W.Frag) (mg : Str → Option Value) (base : Heap) (k : Nat) (f : Addr) (fd : FuncData) (ps : List Str) (sp : Sp) : Prop where
  many : ∀ vs H Q E, sp vs H Q E → vs.length = ps.length
  does : ∀ (A : Around) (outer : List Env) (s : Shared) (H : Hp) (args : Args) (us : List Value) (vs : List V) (Q : VK) (E : XK), Room k A → A.guards = some [] → Env0 P w K mg base A outer s H → BindsTo s fd args (ps.zip us) → Vals vs us →
    sp vs H Q E → codeAny (model P w) A (.call (.ref f) args) (CR CX0 outer P w H s Q E) s
/-- the end of a def's body is the end of its call -/
theorem body_end {N : List Str} {qual : Str} {sc : Scope} {f : Addr} {cdv : Value} {A : Around} {outer : List Env} {s s' : Shared} {H : Hp} {Q : VK} {E : XK} {fl : Flow}
    (h : SP (cxOf CX0 P w K mg base N qual sc f cdv A outer s H E) [] { nx := fun _ H' => Q .non H', rt := Q } fl s') : CR CX0 outer P w H s Q E (.ok (.ret (match fl with | .ret u => u | _ => .none))) s' ∧ (∀ u, fl = .ret u ∨ fl = .next ∨ fl = .brk ∨ fl = .cont → True) ∧ fl ≠ .brk ∧ fl ≠ .cont := by
  cases fl <;> simp only [SP] at h
  case next => obtain ⟨_, H', J, q⟩ := h; exact ⟨⟨V.non, H', J.os, J.bare, J.base, J.hok, rfl, q⟩, fun _ _ => trivial, nofun, nofun⟩
  case ret u => obtain ⟨v, _, H', J, rv, q⟩ := h; exact ⟨⟨v, H', J.os, J.bare, J.base, J.hok, rv, q⟩, fun _ _ => trivial, nofun, nofun⟩
  case brk => exact absurd h.choose_spec.choose_spec.2 id
  case cont => exact absurd h.choose_spec.choose_spec.2 id
theorem okG {x qual : Str} {st : Stmt} {f : Addr} {fd : FuncData} {N ps : List Str} {k : Nat} {sp : Sp} (F : Fun K x qual st f fd) (S : FnScope N ps (defScope st)) (many : ∀ vs H Q E, sp vs H Q E → vs.length = ps.length)
    (body : ∀ (cdv : Value) (A : Around) (outer : List Env) (s : Shared) (H : Hp) (vs : List V) (Q : VK) (E : XK), Room k (A.deeper (envOfC qual (defScope st) s.heap.objs.size f cdv)) → A.guards = some [] → sp vs H Q E →
      ∃ t, PSs (cxOf CX0 P w K mg base N qual (defScope st) f cdv A outer s H E).nox (defBody st) t ∧ t { nx := fun _ H' => Q .non H', rt := Q } (start N vs) H) : FnG P w K mg base (k + 1) f fd ps sp := by
  obtain ⟨_, _, _, _, _, _, cdv, _, _, rfl, lk, hcd⟩ := F.ex
  refine ⟨many, ?_⟩
  intro A outer s H args us vs Q E hr hg e0 hb rv hsp
  obtain ⟨t, ht, hq⟩ := body cdv A outer s H vs Q E (hr.deeper _) hg hsp
  have inK : K.In s.heap := e0.mod.kin.keeps fun b o q => (e0.bs b o q).1
  apply codeAny_call_function hr.depth (inK _ _ lk) rfl S.co S.gen rfl (PySem.W.codeRec_of inK hcd)
  refine hb _ _ _ _ (wpAny_newFunctionEnv_cells S.kind ?_ ?_)
  · rintro ⟨n, v⟩ hy
    exact (S.par n (List.of_mem_zip hy).1).imp id fun q => ⟨q, PySem.W.cellsFrom_some _ _ _ (Or.inl q)⟩
  · rintro env rfl s1 made
    refine ⟨(e0.mod.nolimit.keeps fun b o q => (e0.bs b o q).1).keeps made.toInCall.keep, codeAny_func ?_⟩
    have I := inv_start (CX := CX0) (E := E) S hr.hd e0 (many _ _ _ _ hsp) rv made
    refine wpAny_mono (ht.nox.run [] s1 (start N vs) H _ I hq) (fun fl s' hs => ?_) fun _ _ z => z
    obtain ⟨r, _, n1, n2⟩ := body_end hs
    cases fl with
    | next => exact r
    | ret u => exact r
    | brk => exact absurd rfl n1
    | cont => exact absurd rfl n2
end
section
variable {X : Cx} {k : Nat} {f : Addr} {fd : FuncData} {ps : List Str} {sp : Sp} {ds : List Value} {dvs : List V} {E : XK} {x : Str} {p pos : Pos} {e : Expr} {es : List Expr} {t : TA}
end
/-- repr of data that is no text -/
def rReprD (K : PySem.W.Frag) : List V → Hp → VK → Prop := fun xs H Q => ∃ (a : Addr) (d : PyData), xs = [.ref a] ∧ Dp K H (.ref a) d ∧ d.showable = true ∧ d.hasDict = false ∧ d.depth ≤ 60 ∧ d.shown.length ≤ sizeLine ∧ Q (.str d.shown) H
section
variable {P : Program} {w : World} {K : PySem.W.Frag} {mg mb : Str → Option Value} {k : Nat} {fa a : Addr} {fd : FuncData} {x : Str} {sp : Sp} {s₁ : Shared} {vs : List Value} {ns : List Int}
/-- what is tracked when the law is called: the script, unless the module itself made it -/
def scr (K : PySem.W.Frag) (a : Addr) (ob : Obj) (ns : List Int) : Hp := fun b => if b = a ∧ K.lookup a = none then some (.frz ob (.lst (ns.map V.int))) else none
theorem scr_some {ob : Obj} {b : Addr} {u : HO} (h : scr K a ob ns b = some u) : b = a ∧ K.lookup a = none ∧ u = .frz ob (.lst (ns.map V.int)) := by
  unfold scr at h
  split at h
  · rename_i c
    exact ⟨c.1, c.2, (Option.some.inj h).symm⟩
  · cases h
end
end KR
/-! ### all(test for x in ..): the generator expression's own frame, its test read like a def's body -/
namespace KR
open PySem PySem.Spec PyProof.Rows L2
/-- the frame's scope: one name of its own, nothing captured -/
structure GnS (scope : Scope) (x : Str) : Prop where
  kind : scope.kind = .function
  co : scope.isCoroutine = false
  cell : ∀ y ∈ scope.names, y.2 ≠ .cell
  free : ∀ y ∈ scope.names, y.2 ≠ .free
  dot : scope.names.lookup (".0" : Str) = some NameKind.local
  loc : scope.names.lookup x = some .local
/-- the frame's environment, its around -/
abbrev gEnv (X : Cx) (scope : Scope) (C : Addr) (code : Value) : Env := genEnv scope [] C code builtinsNs X.env
abbrev gAr (X : Cx) (ge : Expr) (it : Addr) (env : Env) : Around := X.A.in1.in1.over (.compLoop ge 0 (.ref it) .none env) []
/-- the frame's context: it began at s, H; fp: what is walked -/
abbrev gCx (X : Cx) (ge : Expr) (it : Addr) (x : Str) (s : Shared) (H : Hp) (env : Env) (fp : List Addr) : Cx :=
  { prog := X.prog, w := X.w, K := X.K, mg := X.mg, base := X.base, A := gAr X ge it env, N := [x], s_0 := s, H_0 := H, env := env, outer := X.stack, stack := env :: X.stack, ex := fp, fn := fun _ => false, calm := true, pn := [], xe := fun _ _ => False }
section
variable {X : Cx} {pins : List (Addr × Obj)} {σ : L2.St} {H : Hp} {s : Shared}
theorem inv_gens {g' : Array GenState} (I : Inv X pins σ H s) (hg : AllBare g') : Inv X pins σ H { s with gens := g' } :=
  I.call (h' := s.heap) (g' := g') (t' := s.toks) (d' := s.drawn) (ch := []) Un.refl I.hok hg fun b z => absurd z List.not_mem_nil
theorem bare_set {a : Array GenState} {g : Nat} {x : GenState} (h : AllBare a) (hx : x.bare = true) : AllBare (a.setIfInBounds g x) := fun y hy => by
  rcases Array.mem_or_eq_of_mem_setIfInBounds hy with z | z
  · exact h y z
  · rw [z]
    exact hx
theorem inv_setGen {g : Nat} {x : GenState} (I : Inv X pins σ H s) (hx : x.bare = true) : Inv X pins σ H (s.setGen g x) := inv_gens I (bare_set I.bare hx)
theorem room_gen {k : Nat} (r : Room (k + 1) X.A) {elt : Expr} {cs : List Comprehension} {sc : Scope} {p : Pos} {it : Addr} {env : Env} : Room k (gAr X (.GeneratorExp elt cs sc p) it env) := by
  obtain ⟨h1, h2, h3⟩ := r
  refine ⟨h1, ?_, ?_⟩
  · show X.A.depth + 0 + 1 + 3 * k + 5 < recursionLimit
    omega
  · show X.A.units + 1 + 1 + 0 + 3 + 16 * k + 200 < cLine
    omega
theorem gen_ok {elt : Expr} {cs : List Comprehension} {sc : Scope} {gp : Pos} {it : Addr} {x : Str} {scope : Scope} {code : Value} {fp : List Addr} (I : Inv X pins σ H s) (S : GnS scope x) (hh : X.A.handled = none) (hfp : ∀ b ∈ fp, FpOk X pins H b ∧ b < s.heap.objs.size) :
    (gCx X (.GeneratorExp elt cs sc gp) it x s H (gEnv X scope s.heap.objs.size code) fp).Ok := by
  have kd : ∀ y k, scope.names.lookup y = some k → k ≠ .cell ∧ k ≠ .free := fun y k e => ⟨S.cell _ (PySem.mem_of_lookup e), S.free _ (PySem.mem_of_lookup e)⟩
  exact {
    mod := I.ok.mod, kind := S.kind, glob := I.ok.glob, blt := rfl, above := Nat.le_refl _
    inj := fun y z c e _ => (by cases e)
    has := fun y h => (by
      rcases h with h | h
      · exact absurd rfl (kd y _ h).1
      · exact absurd rfl (kd y _ h).2)
    cab := fun y c z _ => (by cases z)
    hd := fun _ => hh
    frames := (by
      show pushEnvs [gEnv X scope s.heap.objs.size code] (pushEnvs [] X.A.frames) = _
      rw [I.ok.frames] <;> rfl)
    stk := .inr ⟨rfl, rfl⟩
    exf := fun b hb => ⟨Nat.ne_of_lt (hfp b hb).2, fun y c e => (by cases e)⟩
    bs := I.bs, bsz := Nat.le_trans I.ok.bsz I.sz
    noex := fun b o e hb => (by
      obtain ⟨_, _, _, old | old, _⟩ := (hfp b hb).1
      · exact I.ok.noex b o e old
      · have z := Heap.lt_size e
        have z2 := I.ok.bsz
        exact Nat.lt_irrefl b (Nat.lt_of_lt_of_le z (Nat.le_trans z2 old)))
    exfs := fun b hb hf => (by
      obtain ⟨⟨_, n1, n2, _⟩, _⟩ := hfp b hb
      rcases List.mem_cons.mp (I.stkSub b hf) with e | e
      · exact n1 e
      · exact n2 e)
    funs := I.stack, frf := I.stkFree }
/-- the frame as it begins: its space at C, its generator behind it -/
theorem gen_inv {elt : Expr} {cs : List Comprehension} {sc : Scope} {gp : Pos} {it : Addr} {x : Str} {scope : Scope} {code : Value} {fp : List Addr} {h' : Heap} {G : Obj} {g' : Array GenState} {tk : Nat} {m : Str → Option Value} (I : Inv X pins σ H s) (S : GnS scope x) (hh : X.A.handled = none)
    (hfp : ∀ b ∈ fp, FpOk X pins H b ∧ b < s.heap.objs.size) (hn : h'.Ns s.heap.objs.size m) (hsz : h'.objs.size = s.heap.objs.size + 1) (kp : ∀ b o, s.heap.get? b = some o → h'.get? b = some o) (hg : AllBare g') (hG : ∀ v, G.data ≠ .cell v) (hF : G.isFreed = false) :
    Inv (gCx X (.GeneratorExp elt cs sc gp) it x s H (gEnv X scope s.heap.objs.size code) fp) [(h'.objs.size, G)] [none] H { s with heap := h'.push G, gens := g', toks := tk } := by
  have kp2 : ∀ b o, s.heap.get? b = some o → (h'.push G).get? b = some o := fun b o e => Heap.get?_push_of_some _ (kp b o e)
  have gt : s.heap.objs.size ≤ h'.objs.size := by omega
  exact {
    ok := gen_ok I S hh hfp, os := rfl, bare := hg, base := Un.kept kp2
    loc := ⟨m, hn.push _, fun i y v _ e _ => (by
      match i, e with
      | 0, e => cases e
      | j + 1, e => cases e)⟩
    cell := fun y c e => (by cases e)
    free := I.hok.fresh (Nat.le_refl _)
    freeC := fun y c e => (by cases e)
    pin := fun p hp => (by
      obtain rfl := List.mem_singleton.mp (show p ∈ [(h'.objs.size, G)] from hp)
      refine ⟨Heap.get?_push_size _ hF, I.hok.fresh gt, fun z => ?_, fun z => ?_, hG⟩
      · have z2 : h'.objs.size = s.heap.objs.size := z
        omega
      · rcases List.mem_cons.mp (I.stkSub _ z) with e | e
        · have z2 := I.lt
          rw [← e] at z2
          have z3 : h'.objs.size < s.heap.objs.size := z2
          omega
        · exact I.nofs gt e)
    hok := I.hok.kept kp2, len := rfl }
end
/-- what is so between two steps of the generator, i things taken -/
def GSt (Y : Cx) (pn : List (Addr × Obj)) (tn : Nat → Heap → Prop) (fp : List Addr) (W : Nat → Hp → Prop) (i : Nat) (s : Shared) : Prop :=
  ∃ H', Inv Y pn [none] H' s ∧ tn i s.heap ∧ (∀ b ∈ fp, H' b = none) ∧ W i H'
/-- how it ends, how it hands out -/
def gFin (Y : Cx) (pn : List (Addr × Obj)) (Q : VK) (b : Bool) (s : Shared) : Prop := ∃ H', Inv Y pn [none] H' s ∧ Q (.bl b) H'
abbrev gEnd (Y : Cx) (pn : List (Addr × Obj)) (Q : VK) : GenEnd := fun _ _ r s1 => r = .ok .next ∧ gFin Y pn Q true s1
def gPro (Y : Cx) (pn : List (Addr × Obj)) (tn : Nat → Heap → Prop) (fp : List Addr) (W : Nat → Hp → Prop) (Q : VK) : Protocol := fun _ _ v s kap =>
  ∃ b : Bool, v = .bool b ∧ (b = true → ∃ i, GSt Y pn tn fp W i s ∧ ∀ s', GSt Y pn tn fp W i s' → kap (.send .none) s') ∧ (b = false → gFin Y pn Q false s)
/-- one turn's reading -/
def GTurn (J : It) (te : TE) (n : Nat) (W : Nat → Hp → Prop) (Q : VK) : Prop := ∀ i H2, W i H2 →
  (J.stop i H2 ∧ Q (.bl true) H2) ∨ (J.go i H2 ∧ i < n ∧ ∀ x H3, J.yld i H2 x H3 → te [some x] H3 fun u H4 => ∃ b, u = .bl b ∧ if b = true then W (i + 1) H4 else Q (.bl false) H4)
section
variable {X : Cx} {elt iter : Expr} {x : Str} {px gp : Pos} {sc : Scope} {it C : Addr} {s₁ : Shared} {H₁ : Hp} {code : Value} {fp : List Addr} {pn : List (Addr × Obj)} {tn : Nat → Heap → Prop} {J : It} {te : TE} {n : Nat} {W : Nat → Hp → Prop} {Q : VK}
theorem gen_seg {Y : Cx} {env : Env} (hY : Y = gCx X (.GeneratorExp elt [⟨.Name x px, iter, [], 0⟩] sc gp) it x s₁ H₁ env fp) (hco : env.scope.isCoroutine = false) (T : Turn X.prog X.w X.K (.Name x px) J fp it tn)
    (pg : PG Y (.Name x px) (gName 0)) (pe : PE Y elt te) (turn : GTurn J te n W Q) (hpn : ∀ b ∈ fp, ∀ p ∈ pn, p.1 ≠ b) :
    ∀ (m i : Nat) (s s₀ : Shared), n - i = m → GSt Y pn tn fp W i s → Seg (model X.prog X.w) X.A.in1.in1 (gEnd Y pn Q) (gPro Y pn tn fp W Q) m s₀
      (.compLoop (.GeneratorExp elt [⟨.Name x px, iter, [], 0⟩] sc gp) 0 (.ref it) .none env) ((model X.prog X.w).den (.compLoop (.GeneratorExp elt [⟨.Name x px, iter, [], 0⟩] sc gp) 0 (.ref it) .none env)) [] s := by
  have hA : Y.A = X.A.in1.in1.over (.compLoop (.GeneratorExp elt [⟨.Name x px, iter, [], 0⟩] sc gp) 0 (.ref it) .none env) [] := by rw [hY]
  have hP : Y.prog = X.prog := by rw [hY]
  have hW : Y.w = X.w := by rw [hY]
  have hK : Y.K = X.K := by rw [hY]
  have hC : Y.calm = true := by rw [hY]
  have hE : Y.env = env := by rw [hY]
  have hX : Y.ex = fp := by rw [hY]
  have hN : Y.pn = [] := by rw [hY]
  have hxe : Y.xe = fun _ _ => False := by rw [hY]
  have stat : ∀ {σ' : L2.St} {H' : Hp} {s' : Shared}, Inv Y pn σ' H' s' → (∀ b ∈ fp, H' b = none) → ∀ b ∈ fp, FpOk Y pn H' b := fun {σ' H' s'} I' hn b hb => by
    have hb2 : b ∈ Y.ex := by rw [hX]; exact hb
    refine ⟨hn b hb, (I'.ok.exf b hb2).1, I'.ok.exfs b hb2, .inl hb2, fun y c e => (I'.ok.exf b hb2).2 y c e, fun p hp => ?_⟩
    rw [hN] at hp
    exact hpn b hb p hp
  have runG := fun pins s σ H v u Q => pg.run pins s σ H v u Q
  have runE := fun pins s σ H Q => pe.run pins s σ H Q
  rw [hA, hP, hW, hE, hxe] at runG runE
  intro m
  induction m with
  | zero =>
    rintro i s s₀ hm ⟨H, I, st, nf, w⟩
    show Seg _ _ _ _ _ s₀ _ ((compTurn _ 0 (.ref it) .none env).onRaise (leaving env)) [] s
    rw [compTurn_gen, Sem.onRaise_eq_wrap]
    refine seg_bind_wrap (wpAny_standAt ?_)
    rcases turn i H w with ⟨stop, q⟩ | ⟨_, lt, _⟩
    · have td := T.done Y hP hW hK hC i pn s _ H (fun _ _ => False) I (stat I nf) st stop
      rw [hA] at td
      refine seg_bind_wrap (thnF td fun r s2 ⟨e, I2⟩ => ?_)
      rw [e]
      exact seg_end (.ok .next) ⟨rfl, H, I2, q⟩
    · exact absurd lt (by omega)
  | succ m ih =>
    rintro i s s₀ hm ⟨H, I, st, nf, w⟩
    show Seg _ _ _ _ _ s₀ _ ((compTurn _ 0 (.ref it) .none env).onRaise (leaving env)) [] s
    rw [compTurn_gen, Sem.onRaise_eq_wrap]
    refine seg_bind_wrap (wpAny_standAt ?_)
    rcases turn i H w with ⟨stop, q⟩ | ⟨go, lt, step⟩
    · have td := T.done Y hP hW hK hC i pn s _ H (fun _ _ => False) I (stat I nf) st stop
      rw [hA] at td
      refine seg_bind_wrap (thnF td fun r s2 ⟨e, I2⟩ => ?_)
      rw [e]
      exact seg_end (.ok .next) ⟨rfl, H, I2, q⟩
    · have ti := T.item Y hP hW hK hC i pn s _ H (fun _ _ => False) I (stat I nf) st go
      rw [hA] at ti
      refine seg_bind_wrap (thnF ti fun r s2 ⟨u, e, h2⟩ => ?_)
      rw [e]
      refine seg_bind_wrap (thnF h2 fun _ s3 ⟨y, H3, I3, r3, y3, st3, n3⟩ => ?_)
      have I3' := I3.pinned (stat I3 n3) (T.obj _ _ st3)
      refine seg_bind_wrap (thnF (runG _ s3 _ H3 y u _ I3' r3 (show gName 0 y [none] H3 (fun σ' H' => σ' = [some y] ∧ H' = H3) from ⟨rfl, rfl⟩)) fun _ s4 ⟨σ4, H4, I4, e4, e5⟩ => ?_)
      subst e4 e5
      refine seg_bind_wrap (wpAny_tests_nil ?_)
      simp only [if_true]
      have yo : ∀ v, yieldOut env v = yieldValue v := fun v => by
        unfold yieldOut
        rw [hco] <;> rfl
      simp only [yo]
      rw [Sem.bind_eq_wrap', Sem.bind_eq_wrap', Sem.wrap_wrap, Sem.wrap_wrap]
      refine seg_wrap (thnF (runE _ s4 _ _ _ I4 (step y _ y3)) fun v s5 ⟨yv, H5, I5, r5, b, e5, q5⟩ => ?_)
      subst e5
      obtain rfl : v = Value.bool b := r5
      have pin' : ∀ b ∈ fp, ∀ o, s3.heap.get? b = some o → s5.heap.get? b = some o ∧ H5 b = none := fun b hb o e =>
        let z := I5.pin (b, o) (List.mem_append_right _ (List.mem_append_right _ (mem_pinsAt hb e)))
        ⟨z.1, z.2.1⟩
      have I6 : Inv Y pn [none] H5 s5 := I5.unpinned.weak rfl fun j v e => by
        match j, e with
        | 0, e => cases e
        | j + 1, e => cases e
      have done : W (i + 1) H5 → GSt Y pn tn fp W (i + 1) s5 := fun w5 => ⟨H5, I6, T.keep _ _ _ st3 fun b hb o e => (pin' b hb o e).1, fun b hb => (by
        obtain ⟨o, e, _⟩ := T.obj _ _ st3 b hb
        exact (pin' b hb o e).2), w5⟩
      refine seg_at (seg_yield rfl rfl rfl ⟨b, rfl, fun hb => ?_, fun hb => ?_⟩)
      · rw [if_pos hb] at q5
        exact ⟨i + 1, done q5, fun s' hj => seg_again rfl (ih (i + 1) s' s' (by omega) hj)⟩
      · rw [if_neg (by rw [hb]; exact Bool.false_ne_true)] at q5
        exact ⟨H5, I6, q5⟩
/-- the generator at a, its number g: what it does next -/
def GAt (M : Model) (A : Around) (Y : Cx) (pn : List (Addr × Obj)) (tn : Nat → Heap → Prop) (fp : List Addr) (W : Nat → Hp → Prop) (Q : VK) (g m : Nat) (s : Shared) : Prop :=
  ∃ i gs, GSt Y pn tn fp W i s ∧ s.gens[g]? = some gs ∧ ∀ s', GSt Y pn tn fp W i s' → gs.Goes M A (gEnd Y pn Q) (gPro Y pn tn fp W Q) m (.send .none) s'
theorem gst_set {Y : Cx} {i g : Nat} {s : Shared} {y : GenState} (h : GSt Y pn tn fp W i s) (hy : y.bare = true) : GSt Y pn tn fp W i (s.setGen g y) := by
  obtain ⟨H', I, r⟩ := h
  exact ⟨H', inv_setGen I hy, r⟩
theorem fin_set {Y : Cx} {g : Nat} {s : Shared} {y : GenState} {b : Bool} (h : gFin Y pn Q b s) (hy : y.bare = true) : gFin Y pn Q b (s.setGen g y) := by
  obtain ⟨H', I, r⟩ := h
  exact ⟨H', inv_setGen I hy, r⟩
theorem fin_kept {Y : Cx} {s : Shared} {b : Bool} {h' : Heap} (h : gFin Y pn Q b s) (k : ∀ b o, s.heap.get? b = some o → h'.get? b = some o) : gFin Y pn Q b { s with heap := h' } := by
  obtain ⟨H', I, r⟩ := h
  exact ⟨H', I.kept (t' := s.toks) k, r⟩
theorem set_at {s : Shared} {g : Nat} {y : GenState} (h : g + 1 ≤ (s.setGen g y).gens.size) : (s.setGen g y).gens[g]? = some y := by
  have z : g < s.gens.size := by
    have e : (s.setGen g y).gens.size = s.gens.size := Array.size_setIfInBounds
    omega
  show (s.gens.setIfInBounds g y)[g]? = some y
  rw [Array.getElem?_setIfInBounds, if_pos rfl, if_pos z]
theorem all_run {Y : Cx} {a : Addr} {g : Nat} {G : Obj} {R : Result → Shared → Prop} (hp : (a, G) ∈ pn) (hG : ∀ h : Heap, h.get? a = some G → h.IsGen a g) (hh : X.A.handled = none) (hd : X.A.depth + 2 < recursionLimit)
    (hR : ∀ b s', gFin Y pn Q b s' → R (.ok (.ret (.bool b))) s') :
    ∀ (m : Nat) (s : Shared), GAt (model X.prog X.w) X.A.in1.in1 Y pn tn fp W Q g m s → codeAny (model X.prog X.w) X.A (.builtin "all.loop" ⟨[.ref a], []⟩) R s := by
  have turn : ∀ (m : Nat) (s : Shared), GAt (model X.prog X.w) X.A.in1.in1 Y pn tn fp W Q g m s →
      (∀ s', (∃ k, m = k + 1 ∧ GAt (model X.prog X.w) X.A.in1.in1 Y pn tn fp W Q g k s') → codeAny (model X.prog X.w) X.A (.builtin "all.loop" ⟨[.ref a], []⟩) R s') → codeAny (model X.prog X.w) X.A (.builtin "all.loop" ⟨[.ref a], []⟩) R s := by
    rintro m s ⟨i, gs, st, hgs, goes⟩ next
    obtain ⟨H, I, _⟩ := id st
    have gen : s.heap.IsGen a g := hG _ (I.pin (a, G) (List.mem_append_right _ hp)).1
    have hgl : g + 1 ≤ s.gens.size := (Array.getElem?_eq_some_iff.mp hgs).1
    refine codeAny_builtin (F.entry_all_loop) ?_
    rw [Around.under_plainId (F.plain_all_loop) _]
    show wpAny (model X.prog X.w) X.A.in1 (pyNext (.ref a) >>= _) _ _ s
    refine wpAny_bind (GenW.wpAny_gsz (n := g + 1) hgl (wpAny_pyNext_genexpQ (n := m) (P := fun _ _ s1 => gFin Y pn Q true s1) (Y := gPro Y pn tn fp W Q) hh I.nolimit (by show X.A.depth < recursionLimit; omega) gen hgs (goes _ (gst_set st rfl)) (fun v s1 gs' hb hv => ?_) (fun s1 hf h' hk => ?_)))
    · intro hgl2
      obtain ⟨b, rfl, yes, no⟩ := hv
      refine wpAny_bind (wpAny_holding (wpAny_truthy_bool ?_))
      refine wpAny_bind (wpAny_letGo ?_)
      cases b with
      | true =>
        obtain ⟨i2, st2, kap⟩ := yes rfl
        simp only [if_true]
        cases m with
        | zero => exact (kap s1 st2).elim
        | succ k => exact wpAny_pure ⟨plainId_quiet (F.plain_all_loop) _, next _ ⟨k, rfl, i2, gs', gst_set st2 hb, set_at hgl2, fun s' h => kap s' h⟩⟩
      | false =>
        simp only [Bool.false_eq_true, if_false]
        exact wpAny_bind (wpAny_rule (wpAny_pure (hR false _ (fin_set (no rfl) hb))))
    · intro _
      refine wpAny_bind (wpAny_rule (wpAny_pure ?_))
      exact hR true _ (fin_kept (fin_set hf rfl) hk)
  intro m
  induction m with
  | zero => exact fun s h => turn 0 s h fun s' ⟨k, e, _⟩ => (by cases e)
  | succ m ih => exact fun s h => turn (m + 1) s h fun s' ⟨k, e, z⟩ => ih s' (by cases e; exact z)
end
/-- .. in the def: the table of the def's code may have grown ahead of it -/
def tAllG (P : Addr) (wi : TI) (te : TE) : TE := fun σ H Q => wi σ H fun J H1 => GxR.TabG H1 P ∧ ∃ (n : Nat) (W : Nat → Hp → Prop), (∀ H2, GxR.Tabbed P H1 H2 → W 0 H2) ∧ GTurn J te n W Q
theorem gen_den {X : Cx} {elt iter : Expr} {x : Str} {px gp : Pos} {sc : Scope} {it : Addr} {env : Env} {fp : List Addr} {pn : List (Addr × Obj)} {tn : Nat → Heap → Prop} {W : Nat → Hp → Prop} {Q : VK} {Y : Cx} {J : It} {n : Nat} (T : Turn X.prog X.w X.K (.Name x px) J fp it tn)
    (loop : ∀ (s s₀ : Shared), GSt Y pn tn fp W 0 s → Seg (model X.prog X.w) X.A.in1.in1 (gEnd Y pn Q) (gPro Y pn tn fp W Q) n s₀ (.compLoop (.GeneratorExp elt [⟨.Name x px, iter, [], 0⟩] sc gp) 0 (.ref it) .none env)
      ((model X.prog X.w).den (.compLoop (.GeneratorExp elt [⟨.Name x px, iter, [], 0⟩] sc gp) 0 (.ref it) .none env)) [] s) (s s₀ : Shared) (st : GSt Y pn tn fp W 0 s) :
    Seg (model X.prog X.w) X.A.in1.in1 (gEnd Y pn Q) (gPro Y pn tn fp W Q) n s₀ (.compStart (.GeneratorExp elt [⟨.Name x px, iter, [], 0⟩] sc gp) 0 (.ref it) .none env)
      ((model X.prog X.w).den (.compStart (.GeneratorExp elt [⟨.Name x px, iter, [], 0⟩] sc gp) 0 (.ref it) .none env)) [] s := by
  have go := loop s s₀ st
  obtain ⟨H', I, st0, _⟩ := id st
  show Seg _ _ _ _ _ s₀ _ ((compStart _ 0 (.ref it) .none env).onRaise (leaving env)) [] s
  unfold compStart
  rw [Sem.onRaise_eq_wrap]
  show Seg _ _ _ _ _ s₀ _ ((ask >>= _).wrap _ _ _ _) [] s
  refine seg_bind_wrap (wpAny_askSetting ?_)
  split
  · exact seg_again rfl go
  · refine seg_bind_wrap (wpAny_rule ?_)
    show Seg _ _ _ _ _ s₀ _ ((standAt iter.pos >>= _).wrap _ _ _ _) [] s
    refine seg_bind_wrap (wpAny_standAt (seg_bind_wrap ?_))
    exact T.self _ 0 s _ _ st0 (seg_again rfl go)
theorem no_clo {cells : List (Str × Addr)} : ∀ (l : List (Str × NameKind)), (∀ y ∈ l, y.2 ≠ .free) → cloFrom cells l [] = []
  | [], _ => rfl
  | (n, k) :: r, h => by
    have z := no_clo (cells := cells) r fun y hy => h y (List.mem_cons_of_mem _ hy)
    have hk : k ≠ .free := h (n, k) List.mem_cons_self
    unfold cloFrom
    cases k <;> first | exact z | exact absurd rfl hk
theorem pe_allG {X : Cx} {c P : Addr} {elt iter : Expr} {x : Str} {px p pos gp : Pos} {scope : Scope} {wi : TI} {te : TE} {k : Nat}
    (hr : Room k X.A) (hg : Gl X "all") (hm : X.mg "all" = none) (hb : bootBuiltins "all" = some (.builtin "all")) (TB : GxR.TabB X.base X.mg c P) (hcode : X.env.code = .ref c) (S : GnS scope x) (hi : PI X (.Name x px) iter wi)
    (hel : ∀ (it C : Addr) (s : Shared) (H : Hp) (code : Value) (fp : List Addr), PE (gCx X (.GeneratorExp elt [⟨.Name x px, iter, [], 0⟩] scope gp) it x s H (gEnv X scope C code) fp) elt te)
    (hs : ∀ v, genFold iter X.env v = pure v)
    (he : starEach [.GeneratorExp elt [⟨.Name x px, iter, [], 0⟩] scope gp] X.env = (false, eval (.GeneratorExp elt [⟨.Name x px, iter, [], 0⟩] scope gp) X.env) :: starEach [] X.env := by rfl) :
    PE X (.Call (.Name "all" p) [.GeneratorExp elt [⟨.Name x px, iter, [], 0⟩] scope gp] [] pos) (tAllG P wi te) := by
  have dep := hr.dp
  refine ⟨fun pins s σ H Q I h => ?_⟩
  refine wpAny_Call_Name_kw (ld_blt I hg hm hb ?_)
  refine PyProof.Rows.callWith_builtin1 ?_ he (by rfl)
  rw [he]
  refine Calls.spliced_cons (wpAny_GeneratorExp_make (cl := []) S.co ?_ S.cell S.dot S.kind (by omega) ?_ hs)
  · rw [closure_ok (fun y hy e => absurd e (S.free y hy)), no_clo _ S.free]
  refine thn (hi.run pins s σ H _ I h) fun xv s1 hx => thn hx fun itv s2 ⟨it, fp, tn, J, H2, e, I2, T, st2, f2, TG, n, W, w0, turn⟩ => ⟨I2.nolimit, ?_⟩
  subst e
  obtain ⟨ps, hP, ht⟩ := TG
  have hPs : s2.heap.get? P = some { cls := .none, data := .fields ps } := I2.hok P _ hP
  have cd : PySem.W.CodeHd s2.heap c P := TB.code.keeps I2.bk
  have fpP : ∀ b ∈ fp, b ≠ P := fun b hb z => by
    have q := (f2 b hb).1
    rw [z, hP] at q
    cases q
  have cont : ∀ (code : Value) (h3 : Heap) (tk : Nat) (ps' : Array Value), Heap.ExtBut P s2.heap h3 → s2.heap.objs.size ≤ h3.objs.size → h3.get? P = some { cls := .none, data := .fields ps' } → (∃ more, ps' = ps ++ more) → TriplesOk ps'.toList →
      wpAny (model X.prog X.w) X.A (builtinsFor X.env.globals X.env.builtins) (fun bi s₄ => ∀ h', h'.Ns s₄.heap.objs.size (fun y => if y = ".0" then some (.ref it) else none) →
        Heap.SameBut s₄.heap.objs.size (s₄.heap.push { cls := .type "frame", data := .dict #[] }) h' → wpAny (model X.prog X.w) X.A (spliced (backTo pos (starEach [] X.env))) (fun us s' => wpAny (model X.prog X.w) X.A (call (.builtin "all") (.ref h'.objs.size :: us)) (EP X pins σ Q) X.xe s') X.xe
          { s₄ with gens := s₄.gens.push (.fresh (.compStart (.GeneratorExp elt [⟨.Name x px, iter, [], 0⟩] scope gp) 0 (.ref it) .none (genEnv scope [] s₄.heap.objs.size code bi X.env))), toks := s₄.toks + 1 + 1 + 1,
                    heap := h'.push { cls := .type "generator", data := .fields #[.int s₄.gens.size 0, .str "<genexpr>" (s₄.toks + 1), .str (X.env.qual ++ "<genexpr>") (s₄.toks + 1 + 1)] } }) X.xe { s2 with heap := h3, toks := tk } := by
    intro code h3 tk ps' hx hsz hP3 hmore ht3
    obtain ⟨bm, ob, e1, e2, e3, e4, e5, e6, e7, e8⟩ := TB.bm
    have keep3 : ∀ b u, b ≠ P → s2.heap.get? b = some u → h3.get? b = some u := fun b u hb e => hx b u hb e
    refine wpAny_builtinsFor (m := X.mg) (by rw [I2.ok.glob]; exact (I2.mod.glob.keeps I2.bk).extBut hx TB.gP) e1 e2 (keep3 _ _ e4 (I2.bk _ _ e5)) e6 e7 e8 ?_
    obtain ⟨more, em⟩ := hmore
    have I4 := GxR.inv_tab (more := more) (h' := h3) (g' := s2.gens) (d' := s2.drawn) (t' := tk) I2 hP (fun b u hb e => keep3 b u hb e) (by rw [← em]; exact hP3) I2.bare
    generalize hs4 : ({ s2 with heap := h3, toks := tk } : Shared) = s4 at I4 ⊢
    have h4 : s4.heap = h3 := by rw [← hs4]
    have tabbed : GxR.Tabbed P H2 (upd H2 P (.tbl (ps ++ more))) := ⟨⟨_, upd_same, by rw [← em]; exact ht3⟩, fun b hb => upd_ne hb⟩
    generalize upd H2 P (.tbl (ps ++ more)) = H4 at I4 tabbed
    have lt4 : ∀ b ∈ fp, b < s4.heap.objs.size := fun b hb => by
      obtain ⟨o, e, _⟩ := T.obj _ _ st2 b hb
      have z := Heap.lt_size e
      rw [h4]
      exact Nat.lt_of_lt_of_le z hsz
    have f4 : ∀ b ∈ fp, FpOk X pins H4 b ∧ b < s4.heap.objs.size := fun b hb => ⟨⟨(tabbed.2 b (fpP b hb)).trans (f2 b hb).1, (f2 b hb).2⟩, lt4 b hb⟩
    intro h' hn' hs'
    have sz' : h'.objs.size = s4.heap.objs.size + 1 := by rw [hs'.1, Heap.size_push]
    have kp : ∀ b o, s4.heap.get? b = some o → h'.get? b = some o := fun b o e => hs'.extBut b o (Nat.ne_of_lt (Heap.lt_size e)) (Heap.get?_push_of_some _ e)
    generalize hG : ({ cls := .type "generator", data := .fields #[.int s4.gens.size 0, .str "<genexpr>" (s4.toks + 1), .str (X.env.qual ++ "<genexpr>") (s4.toks + 1 + 1)] } : Obj) = G
    have IG := gen_inv (elt := elt) (cs := [⟨.Name x px, iter, [], 0⟩]) (sc := scope) (gp := gp) (it := it) (code := code) (G := G) (g' := s4.gens.push (.fresh (.compStart (.GeneratorExp elt [⟨.Name x px, iter, [], 0⟩] scope gp) 0 (.ref it) .none (gEnv X scope s4.heap.objs.size code)))) (tk := s4.toks + 1 + 1 + 1)
      I4 S hr.hd f4 hn' sz' kp (I4.bare.push rfl) (fun v z => by rw [← hG] at z; cases z) (by rw [← hG] <;> rfl)
    have st5 : tn 0 (h'.push G) := T.keep _ _ _ st2 fun b hb o e => Heap.get?_push_of_some _ (kp b o (by rw [h4]; exact keep3 b o (fpP b hb) e))
    refine Calls.spliced_nil ?_
    have isG : ∀ hp : Heap, hp.get? h'.objs.size = some G → hp.IsGen h'.objs.size s4.gens.size := fun hp e => ⟨G, _, _, e, by rw [← hG], by rw [← hG], by rw [← hG]⟩
    have hpn : ∀ b ∈ fp, ∀ p ∈ [(h'.objs.size, G)], p.1 ≠ b := fun b hb p hp z => by
      obtain rfl := List.mem_singleton.mp hp
      have q : b < s4.heap.objs.size := lt4 b hb
      have z2 : h'.objs.size = b := z
      rw [← z2, sz'] at q
      exact Nat.lt_irrefl _ (Nat.lt_of_succ_lt q)
    have loop := gen_seg (elt := elt) (iter := iter) (px := px) (gp := gp) (sc := scope) (Q := Q) (tn := tn) (n := n) rfl S.co T (pg_name (X := gCx X (.GeneratorExp elt [⟨.Name x px, iter, [], 0⟩] scope gp) it x s4 H4 (gEnv X scope s4.heap.objs.size code) fp) (List.nodup_cons.mpr ⟨List.not_mem_nil, List.nodup_nil⟩) rfl (.inl S.loc) (.inr S.loc))
      (hel it s4.heap.objs.size s4 H4 code fp) turn hpn
    refine call_function_tree (F.kind_all) (F.plain_all) (F.entry_all) (F.args_all1 _) ?_
    unfold Builtin.«all»
    refine wpAny_bind (m := oneArg "all" _) (wpAny_pure ?_)
    refine wpAny_bind (wpAny_pyIter_gen (isG _ (IG.pin (h'.objs.size, G) (List.mem_singleton.mpr rfl)).1) ?_)
    refine wpAny_pure ⟨plainId_quiet (F.plain_all_loop) _, all_run (pn := [(h'.objs.size, G)]) (tn := tn) (fp := fp) (W := W) (Q := Q) (List.mem_singleton.mpr rfl) isG hr.hd (by omega) (fun b s' hf => ?_) n _ ⟨0, _, ⟨H4, IG, st5, fun b hb => (f4 b hb).1.1, w0 H4 tabbed⟩, Array.getElem?_push_size .., fun s' hst => ⟨rfl, gen_den T (fun s s₀ q => loop n 0 s s₀ (Nat.sub_zero n) q) s' s' hst⟩⟩⟩
    obtain ⟨H', IY, q⟩ := hf
    have J := I4.call' (ch := fp) IY.os IY.base IY.hok IY.bare fun b hb => ⟨(f4 b hb).1.2.2.2.1, (f4 b hb).1.2.1, (f4 b hb).1.2.2.2.2.1, (f4 b hb).1.2.2.2.2.2⟩
    exact ⟨.bl b, H', J, rfl, q⟩
  cases hf : codeAmong gp ps.toList with
  | none =>
    refine wpAny_genexprCodeX hcode (cd.code hPs ht) (cd.tab hPs) hf fun c' h' tk hx hge hlt hco' _ htab' _ => ?_
    obtain ⟨o1, vs, f1, tf, fl, tg, inF, tx, tt, op, _, _, _, _, _, _, _, _, _, htr, _⟩ := hco'
    exact cont _ h' tk _ hx (Nat.le_trans hge (Nat.le_of_lt hlt)) htab'.2 ⟨_, rfl⟩ htr
  | some cv =>
    refine wpAny_genexprCode_hit hcode (cd.code hPs ht) hf ?_
    exact cont cv s2.heap s2.toks ps (Heap.ExtBut.refl _ _) (Nat.le_refl _) hPs ⟨#[], by simp⟩ ht
end KR
/-! ### defs whose code has a table (a generator expression stands in them): what is kept around their calls, and the law's end with such tables -/
namespace KR
open PySem PySem.Spec PyProof.Rows L2
/-- what was tracked is as it was; tables may have grown -/
structure Sm (H H' : Hp) : Prop where
  keep : ∀ b o, H b = some o → (∀ q, o ≠ .tbl q) → H' b = some o
  tab : ∀ b, GxR.TabG H b → GxR.TabG H' b
theorem Sm.trans {H H1 H2 : Hp} (a : Sm H H1) (b : Sm H1 H2) : Sm H H2 := ⟨fun c o h n => b.keep c o (a.keep c o h n) n, fun c h => b.tab c (a.tab c h)⟩
theorem Sm.of {H H1 : Hp} (a : Same H H1) : Sm H H1 := ⟨fun c o h _ => a c o h, fun c ⟨q, e, t⟩ => ⟨q, a _ _ e, t⟩⟩
theorem Sm.tabbed {H H1 : Hp} {P : Addr} (a : GxR.Tabbed P H H1) (h : GxR.TabG H P) : Sm H H1 := by
  obtain ⟨q, e, _⟩ := h
  refine ⟨fun c o h n => ?_, fun c ⟨q2, e2, t2⟩ => ?_⟩
  · have ne : c ≠ P := fun z => by
      rw [z, e] at h
      exact n q (Option.some.inj h).symm
    rw [a.2 c ne]
    exact h
  · by_cases z : c = P
    · rw [z]
      exact a.1
    · exact ⟨q2, (a.2 c z).trans e2, t2⟩
theorem Sm.tup {K : PySem.W.Frag} {H H' : Hp} {a : Addr} {xs : List V} (e : Sm H H') (h : SqT K H a xs) : SqT K H' a xs := by
  rcases h with (h | ⟨o, h⟩) | h
  · exact .inl (.inl (e.keep _ _ h nofun))
  · exact .inl (.inr ⟨o, e.keep _ _ h nofun⟩)
  · exact .inr h
theorem Sm.seq {K : PySem.W.Frag} {H H' : Hp} {a : Addr} {xs : List V} (e : Sm H H') (h : SqL K H a xs) : SqL K H' a xs := by
  rcases h with (h | ⟨o, h⟩) | h
  · exact .inl (.inl (e.keep _ _ h nofun))
  · exact .inl (.inr ⟨o, e.keep _ _ h nofun⟩)
  · exact .inr h
/-- .. but the box p -/
structure Fs (p : Addr) (H H' : Hp) : Prop where
  keep : ∀ b o, b ≠ p → H b = some o → (∀ q, o ≠ .tbl q) → H' b = some o
  tab : ∀ b, b ≠ p → GxR.TabG H b → GxR.TabG H' b
theorem Fs.trans {p : Addr} {H H1 H2 : Hp} (a : Fs p H H1) (b : Fs p H1 H2) : Fs p H H2 := ⟨fun c o e h n => b.keep c o e (a.keep c o e h n) n, fun c e h => b.tab c e (a.tab c e h)⟩
theorem Fs.of {p : Addr} {H H1 : Hp} (a : Fr p H H1) : Fs p H H1 := ⟨fun c o e h _ => a c o e h, fun c e ⟨q, g, t⟩ => ⟨q, a _ _ e g, t⟩⟩
theorem Fs.sm {p : Addr} {H H1 : Hp} (a : Sm H H1) : Fs p H H1 := ⟨fun c o _ h n => a.keep c o h n, fun c _ h => a.tab c h⟩
/-- so many tables are there -/
def Tbs (Ps : List Addr) (H : Hp) : Prop := ∀ P ∈ Ps, GxR.TabG H P
theorem Tbs.sm {Ps : List Addr} {H H' : Hp} (h : Tbs Ps H) (s : Sm H H') : Tbs Ps H' := fun P hP => s.tab P (h P hP)
theorem box_lst {H : Hp} {p : Addr} {n : Nat} (h : BoxAt H p n) : ∃ xs, H p = some (.lst xs) := by
  obtain ⟨a, b, c, h1, _⟩ := h
  exact ⟨_, h1⟩
theorem Tbs.same {Ps : List Addr} {H H' : Hp} (h : Tbs Ps H) (s : Same H H') : Tbs Ps H' := h.sm (.of s)
/-- a def of the text whose code object is known -/
structure FunC (K : PySem.W.Frag) (x qual : Str) (st : Stmt) (f : Addr) (fd : FuncData) (c : Addr) : Prop where
  ex : ∃ (oc : Value) (od : Option Addr) (kV doc pm : Value) (an : Option Addr) (ct : Value) (osl : Array (Option Value)),
    fd = PySem.W.fnOf x qual (defArgs st) (defBody st) (defScope st) .none kV doc pm an (.ref c) ct ∧ K.lookup f = some ⟨oc, od, .func fd, osl⟩ ∧ PySem.W.codeIn K (.ref c) qual = true
theorem funC_mk {K : PySem.W.Frag} {x qual : Str} {st : Stmt} {f c : Addr} {oc : Value} {od an : Option Addr} {osl : Array (Option Value)} {kV doc pm ct : Value} (l : K.lookup f = some ⟨oc, od, .func (PySem.W.fnOf x qual (defArgs st) (defBody st) (defScope st) .none kV doc pm an (.ref c) ct), osl⟩)
    (h : PySem.W.codeIn K (.ref c) qual = true) : FunC K x qual st f (PySem.W.fnOf x qual (defArgs st) (defBody st) (defScope st) .none kV doc pm an (.ref c) ct) c := ⟨⟨oc, od, kV, doc, pm, an, ct, osl, rfl, l, h⟩⟩
section
variable {P : Program} {w : World} {K : PySem.W.Frag} {mg : Str → Option Value} {base : Heap}
theorem FunC.ok {x qual : Str} {st : Stmt} {f c : Addr} {fd : FuncData} {N ps : List Str} {k : Nat} {sp : Sp} (F : FunC K x qual st f fd c) (S : FnScope N ps (defScope st)) (len : ∀ vs H Q E, sp vs H Q E → vs.length = ps.length)
    (body : ∀ (cdv : Value) (A : Around) (outer : List Env) (s : Shared) (H : Hp) (vs : List V) (Q : VK) (E : XK), cdv = .ref c → Room k (A.deeper (envOfC qual (defScope st) s.heap.objs.size f cdv)) → sp vs H Q E →
      ∃ t, PSs (cxOf CX0 P w K mg base N qual (defScope st) f cdv A outer s H E).nox (defBody st) t ∧ t { nx := fun _ H' => Q .non H', rt := Q } (start N vs) H) : FnOk P w K mg base CX0 (k + 1) f fd ps sp := by
  obtain ⟨_, _, _, _, _, _, _, _, rfl, lk, hcd⟩ := F.ex
  exact fn_of lk hcd S len fun A outer s H vs Q E hr hsp => (body (.ref c) A outer s H vs Q E rfl hr hsp).elim fun t z => ⟨t, z.1.nox, z.2⟩
end
section
variable {P : Program} {w : World} {K : PySem.W.Frag} {mg mb : Str → Option Value} {k : Nat} {fa a : Addr} {fd : FuncData} {x : Str} {sp : Sp} {s₁ : Shared} {vs : List Value} {ns : List Int}
/-- what is tracked when the law is called: the script and the tables -/
def scrT (K : PySem.W.Frag) (a : Addr) (ob : Obj) (ns : List Int) (Ps : List Addr) : Hp := fun b => if b ∈ Ps then some (.tbl #[]) else scr K a ob ns b
theorem scrT_some {ob : Obj} {Ps : List Addr} {b : Addr} {u : HO} (h : scrT K a ob ns Ps b = some u) : (b ∈ Ps ∧ u = .tbl #[]) ∨ (b ∉ Ps ∧ b = a ∧ K.lookup a = none ∧ u = .frz ob (.lst (ns.map V.int))) := by
  unfold scrT at h
  split at h
  · rename_i c
    exact .inl ⟨c, (Option.some.inj h).symm⟩
  · rename_i c
    exact .inr ⟨c, scr_some h⟩
abbrev eob : Obj := { cls := .none, data := .fields #[] }
theorem call_lawT {cs : List (Addr × Addr)} (inK : K.In s₁.heap) (gl : s₁.heap.Ns mainGlobals mg) (bl : s₁.heap.Ns builtinsNs mb) (boot : ∀ x : Str, x ≠ "__name__" → mb x = bootBuiltins x) (lim : s₁.heap.NoLimit) (quiet : s₁.gens = #[])
    (empty : ∀ p ∈ cs, s₁.heap.get? p.2 = some eob) (noK : ∀ p ∈ cs, K.lookup p.2 = none) (head : ∀ p ∈ cs, PySem.W.CodeHd s₁.heap p.1 p.2)
    (bmain : ∃ (bm : Addr) (ob : Obj), mg "__builtins__" = some (.ref bm) ∧ bm ≠ builtinsNs ∧ s₁.heap.get? bm = some ob ∧ ob.cls = .type "module" ∧ ob.dict = some builtinsNs ∧ ob.data = .plain)
    (there : s₁.heap.get? a = some { cls := .type "list", data := .seq vs.toArray }) (areInts : IntsAre vs ns) (len : ns.length ≤ sizeLine) (room : Room k callerA)
    (F : ∀ base : Heap, K.In base → base.Ns mainGlobals mg → (∀ p ∈ cs, GxR.TabB base mg p.1 p.2) → FnG P w K mg base k fa fd [x] sp) (binds : ∀ (s : Shared) (u : Value), BindsTo s fd ⟨[u], []⟩ [(x, u)])
    (asked : ∀ H : Hp, Tbs (cs.map (·.2)) H → SqL K H a (ns.map V.int) → sp [.ref a] H (fun v _ => v = .bl true) fun _ _ _ => False) :
    codeAny (model P w) callerA (.call (.ref fa) ⟨[.ref a], []⟩) (fun r s' => r = .ok (.ret (.bool true)) ∧ OldK s₁.heap s'.heap ∧ s'.os = s₁.os ∧ AllBare s'.gens) s₁ := by
  let ob : Obj := { cls := .type "list", data := .seq vs.toArray }
  let Ps := cs.map (·.2)
  let H := scrT K a ob ns Ps
  have at_ : ∀ {b u}, H b = some u → (b ∈ Ps ∧ u = .tbl #[]) ∨ (b ∉ Ps ∧ b = a ∧ K.lookup a = none ∧ u = .frz ob (.lst (ns.map V.int))) := scrT_some
  have isT : ∀ b ∈ Ps, s₁.heap.get? b = some eob := fun b hb => by
    obtain ⟨p, hp, e⟩ := List.mem_map.mp hb
    rw [← e]
    exact empty p hp
  have aT : a ∉ Ps := fun z => by
    have q := Option.some.inj ((isT a z).symm.trans there)
    have q2 : Data.fields #[] = Data.seq vs.toArray _ := congrArg Obj.data q
    cases q2
  have no : ∀ b o, s₁.heap.get? b = some o → (∀ q n, o.data ≠ .seq q n) → o.data ≠ .fields #[] → H b = none := fun b o e d1 d2 => by
    cases c : H b with
    | none => rfl
    | some u =>
      rcases at_ c with ⟨hb, _⟩ | ⟨_, rfl, _⟩
      · have q := Option.some.inj (e.symm.trans (isT b hb))
        exact absurd (by rw [q]) d2
      · have q := Option.some.inj (e.symm.trans there)
        exact absurd (by rw [q]) (d1 vs.toArray _)
  have keepNs : ∀ {b : Addr} {m : Str → Option Value}, s₁.heap.Ns b m → (hidT s₁.heap H).Ns b m := fun {b m} ⟨o, es, ep, e, d, r⟩ =>
    ⟨o, es, ep, hidT_get e (no b o e (fun q n z => by rw [d] at z; cases z) fun z => by rw [d] at z; cases z), d, r⟩
  have keepK : K.In (hidT s₁.heap H) := fun b o e => hidT_get (inK b o e) (by
    cases c : H b with
    | none => rfl
    | some u =>
      rcases at_ c with ⟨hb, _⟩ | ⟨_, rfl, n, _⟩
      · obtain ⟨p, hp, e2⟩ := List.mem_map.mp hb
        rw [← e2, noK p hp] at e
        cases e
      · rw [n] at e
        cases e)
  have rel := vals_ints areInts
  have holds : HOk P w H s₁.heap := fun b u c => by
    rcases at_ c with ⟨hb, rfl⟩ | ⟨_, rfl, _, rfl⟩
    · exact isT b hb
    · exact ⟨there, by rw [List.length_map]; exact len, vs, _, rel, there⟩
  have tbs : Tbs Ps H := fun b hb => ⟨#[], if_pos hb, by first | trivial | simp [TriplesOk]⟩
  have script : SqL K H a (ns.map V.int) := by
    cases c : K.lookup a with
    | none => exact Or.inl (Or.inr ⟨ob, (if_neg aT).trans (if_pos ⟨rfl, c⟩)⟩)
    | some o =>
      have e := Option.some.inj ((inK a o c).symm.trans there)
      subst e
      exact Or.inr ⟨_, vs.toArray, _, c, rfl, rfl, rfl, by rw [List.size_toArray, areInts.length]; exact len, by simpa using rel⟩
  have modul : Mod K mg (hidT s₁.heap H) := ⟨keepK, keepNs gl, ⟨mb, keepNs bl, boot⟩, lim.elim fun mc z => ⟨mc, keepNs z.1, z.2⟩⟩
  have tabB : ∀ p ∈ cs, GxR.TabB (hidT s₁.heap H) mg p.1 p.2 := fun p hp => by
    refine ⟨?_, ?_, fun z => ?_⟩
    · obtain ⟨o, us, file, tf, flags, tg, inF, text, tt, e1, r0, r1, r2, rest⟩ := head p hp
      refine ⟨o, us, file, tf, flags, tg, inF, text, tt, hidT_get e1 (no _ _ e1 (fun q n z => ?_) fun z => ?_), r0, r1, r2, rest⟩
      · rw [r1] at z
        cases z
      · rw [r1] at z
        cases z
        simp at r2
    · obtain ⟨bm, o, b1, b2, b3, b4, b5, b6⟩ := bmain
      refine ⟨bm, o, b1, b2, fun q => ?_, fun q => ?_, hidT_get b3 (no _ _ b3 (fun q n z => ?_) fun z => ?_), b4, b5, b6⟩
      · obtain ⟨o2, es, ep, e, d, _⟩ := gl
        rw [q, e] at b3
        cases b3
        rw [d] at b6
        cases b6
      · rw [q, empty p hp] at b3
        cases b3
        cases b6
      · rw [b6] at z
        cases z
      · rw [b6] at z
        cases z
    · obtain ⟨o2, es, ep, e, d, _⟩ := gl
      rw [z, empty p hp] at e
      cases e
      cases d
  have start0 : Env0 P w K mg (hidT s₁.heap H) callerA [] s₁ H := ⟨rfl, modul, fun b o e => of_hidT e, Nat.le_of_eq (hidT_size _ _), trivial, fun b hb => (List.not_mem_nil hb).elim, holds, .of_eq quiet⟩
  refine codeAny_mono ((F _ keepK (keepNs gl) tabB).does callerA [] s₁ H _ [.ref a] [.ref a] _ _ room rfl start0 (binds s₁ (.ref a)) (.cons rfl .nil) (asked H tbs script)) ?_
  intro r s' post
  match r, post with
  | .error e, post => exact False.elim post
  | .ok .next, post => exact post.elim
  | .ok .brk, post => exact post.elim
  | .ok .cont, post => exact post.elim
  | .ok (.ret u), ⟨v, H', os, bare, un, held, rv, e⟩ =>
    cases (show v = V.bl true from e)
    cases (show u = Value.bool true from rv)
    have key : ∀ b o, b ∉ Ps → s₁.heap.get? b = some o → s'.heap.get? b = some o := fun b o nb g => by
      cases c : H b with
      | none => exact un.keep b o g c (fun z => (List.not_mem_nil z).elim) (fun z => (List.not_mem_nil z).elim)
      | some u =>
        rcases at_ c with ⟨hb, _⟩ | ⟨_, rfl, _, rfl⟩
        · exact absurd hb nb
        · rw [Option.some.inj (g.symm.trans there)]
          exact (held b _ (un.frzs b ob _ c)).1
    have grown : ∀ p ∈ cs, ∃ more : Array Value, s'.heap.get? p.2 = some { cls := .none, data := .fields more } := fun p hp =>
      (un.tbls p.2 #[] (if_pos (List.mem_map.mpr ⟨p, hp, rfl⟩))).elim fun more z => ⟨_, held p.2 _ z⟩
    refine ⟨rfl, ⟨fun b o g => ?_, fun b o g => ?_⟩, os, bare⟩
    · by_cases hb : b ∈ Ps
      · obtain ⟨p, hp, e2⟩ := List.mem_map.mp hb
        obtain ⟨more, hm⟩ := grown p hp
        subst e2
        cases Option.some.inj (g.symm.trans (empty p hp))
        exact .inr (.inl ⟨((head p hp).tab (empty p hp)).isCodeTable, rfl, #[], more, rfl, by rw [Array.empty_append]; exact hm⟩)
      · exact .inl (key b o hb g)
    · by_cases hb : b ∈ Ps
      · obtain ⟨p, hp, e2⟩ := List.mem_map.mp hb
        subst e2
        exact (grown p hp).elim fun _ z => ⟨_, z⟩
      · exact ⟨o, key b o hb g⟩
end
/-- the goal that is left of a law: xs, the defs in which a generator expression stands -/
theorem walk_ofT {l : PySem.W.OpenLaw} {n k : Nat} {q : Program} {loose : List Str} {XP : (Str → Option Value) → Heap → Prop} {YP : World → Heap → Prop} {d : DefRec} {K : Params → PySem.W.Frag} {sp : World → List Addr → Sp} {x : Str} (xs : List Str)
    (most : l.most = some n) (n9 : n ≤ sizeLine) (nodf : d.params.defaults = []) (room : Room k callerA) (inK : ∀ (w : World) (h : Heap), YP w h → (K w.params).In h) (recs : ∀ y ∈ xs, ((recsOf q).any fun e => e.name == y) = true)
    (F : ∀ (w : World) (mg : Str → Option Value) (fa : Addr) (h : Heap), (K w.params).In h → h.Ns mainGlobals mg → mg d.name = some (.ref fa) →
      ∃ (fd : FuncData) (cs : List (Addr × Addr)), (∀ p ∈ cs, ∃ y ∈ xs, PySem.W.tabIn (K w.params) y = some p) ∧ (∀ p ∈ cs, (K w.params).lookup p.2 = none) ∧ (∀ (s : Shared) (u : Value), BindsTo s fd ⟨[u], []⟩ [(x, u)]) ∧
        ∀ base : Heap, (K w.params).In base → base.Ns mainGlobals mg → (∀ p ∈ cs, GxR.TabB base mg p.1 p.2) → FnG l.prog w (K w.params) mg base k fa fd [x] (sp w (cs.map (·.2))))
    (asked : ∀ (w : World) (Ps : List Addr) (H : Hp) (a : Addr) (ns : List Int), ns.length ≤ n → Tbs Ps H → SqL (K w.params) H a (ns.map V.int) → sp w Ps [.ref a] H (fun v _ => v = .bl true) fun _ _ _ => False) :
    PySem.W.WalkO q loose XP YP l.row.toRowW d [] (fun f vs => PySem.call f vs) :=
  Att.attach_call most nodf fun w s₀ s₁ mg mb fa o pm cd doc a vs ns G Y ho hd hcd hmg hobj hints hlen hg => by
    obtain ⟨fd, cs, ht, hn, b, f⟩ := F w mg fa _ (inK w _ Y) G.T.g hmg
    have tab : ∀ p ∈ cs, PySem.W.CodeHd s₁.heap p.1 p.2 ∧ s₁.heap.get? p.2 = some eob := fun p hp => by
      obtain ⟨y, hy, e⟩ := ht p hp
      obtain ⟨r, hr⟩ : ∃ r, (recsOf q).find? (fun e => e.name == y) = some r := Option.isSome_iff_exists.mp (by
        rw [List.find?_isSome]
        exact List.any_eq_true.mp (recs y hy))
      exact PySem.W.tab_of G.T (inK w _ Y) hr e
    exact call_lawT (inK w _ Y) G.T.g G.T.b G.T.builtins G.T.nolimit hg (fun p hp => (tab p hp).2) hn (fun p hp => (tab p hp).1) G.T.bmain hobj hints (Nat.le_trans hlen n9) room f b fun H tbs sc => asked w _ H a ns hlen tbs sc
/-- tuple(x) of a list or a tuple -/
def rTupI (K : PySem.W.Frag) : List V → Hp → VK → Prop := fun xs H Q => ∃ p ys, xs = [.ref p] ∧ ((SqL K H p ys ∧ ∀ l H', Same H H' → H l = none → H' l = some (.tup ys) → Q (.ref l) H') ∨ (SqT K H p ys ∧ Q (.ref p) H))
theorem tupI {X : Cx} {K : PySem.W.Frag} (h : X.K = K) : CallR X (.type "tuple") (rTupI K) := fun pins s σ H xs us Q I r ⟨p, ys, e, q⟩ =>
  call_tuple_of pins s σ H xs us Q I r ⟨p, ys, e, h ▸ q.imp (fun z => ⟨z.1, fun l hl => z.2 l _ (same_new hl) hl upd_same⟩) id⟩
theorem tabIn_of {K : PySem.W.Frag} {x : Str} {f c P : Addr} {oc e : Value} {od dd : Option Addr} {fd : FuncData} {osl sl : Array (Option Value)} {vs : Array Value} (a : PySem.W.nsIn K mainGlobals x = some (some (.ref f))) (l : K.lookup f = some ⟨oc, od, .func fd, osl⟩)
    (hc : fd.code = .ref c) (q : K.lookup c = some ⟨e, dd, .fields vs, sl⟩) (p : vs[11]? = some (.ref P)) : PySem.W.tabIn K x = some (c, P) := by
  unfold PySem.W.tabIn
  rw [a]
  dsimp only
  rw [l]
  dsimp only
  rw [hc]
  dsimp only
  rw [q]
  dsimp only
  rw [p]
end KR
/-! ### fractions as numbers of the field -/
namespace KR
open PySem PySem.Spec PyProof.Rows L2
theorem Same.tup {K : PySem.W.Frag} {H H' : Hp} {a : Addr} {xs : List V} (e : Same H H') (h : SqT K H a xs) : SqT K H' a xs :=
  h.elim (fun h => .inl (h.elim (fun h => .inl (e _ _ h)) fun ⟨o, h⟩ => .inr ⟨o, e _ _ h⟩)) fun h => .inr h
theorem sqT_ty {K : PySem.W.Frag} {H : Hp} {a : Addr} {xs : List V} (h : SqT K H a xs) : TyX K H (.ref a) (.type "tuple") := by
  rcases h with (h | ⟨o, h⟩) | ⟨o, its, n, h1, h2, _⟩
  · exact .base (.tup h)
  · exact .fTuple h
  · exact .kTuple h1 h2
theorem BoxAt.upd {H : Hp} {p D : Addr} {n : Nat} {o : HO} (h : BoxAt H p n) (ne : D ≠ p) : BoxAt (L2.upd H D o) p n := by
  obtain ⟨a, b, c, h1, h2⟩ := h
  exact ⟨a, b, c, by rw [upd_ne ne.symm]; exact h1, h2⟩
def rq (t b : Int) : Rat := (t : Rat) / (b : Rat)
theorem rat_nd (q : Rat) : (q.num : Rat) / ((q.den : Int) : Rat) = q := by rw [← Rat.divInt_eq_div, Rat.num_divInt_den]
theorem den_ne (q : Rat) : ((q.den : Int) : Rat) ≠ 0 := by
  intro h
  have k := q.den_pos
  have h2 : ((q.den : Int) : Rat) = ((0 : Int) : Rat) := h
  have e := Rat.intCast_inj.mp h2
  omega
theorem den_ne' (q : Rat) : (q.den : Int) ≠ 0 := by
  have k := q.den_pos
  omega
theorem int_ne {b : Int} (h : b ≠ 0) : (b : Rat) ≠ 0 := fun z => h (Rat.intCast_inj.mp (z.trans (by rfl : (0 : Rat) = ((0 : Int) : Rat))))
theorem rat_low (q : Rat) : IsLow q.num q.den := ⟨by have k := q.den_pos; omega, by rw [Int.natAbs_natCast]; exact q.reduced⟩
theorem rq_cross {t b : Int} (hb : b ≠ 0) : t * ((rq t b).den : Int) = (rq t b).num * b := by
  have e := rat_nd (rq t b)
  have h1 := den_ne (rq t b)
  have h2 := int_ne hb
  refine Rat.intCast_inj.mp ?_
  rw [Rat.intCast_mul, Rat.intCast_mul]
  generalize ((rq t b).den : Int) = d at *
  generalize (rq t b).num = n at *
  unfold rq at e
  grind
theorem rq_low {t b : Int} (hb : b ≠ 0) : low t b = ((rq t b).num, ((rq t b).den : Int)) := low_eq hb (rat_low _) (rq_cross hb)
theorem cast_pos {b : Int} (h : 0 < b) : (0 : Rat) < (b : Rat) := (Rat.intCast_lt_intCast (a := 0)).mpr h
theorem cast_nn {b : Int} (h : 0 ≤ b) : (0 : Rat) ≤ (b : Rat) := (Rat.intCast_le_intCast (a := 0)).mpr h
theorem le_div {a b c : Rat} (h : 0 < c) (k : a * c ≤ b) : a ≤ b / c := Rat.not_lt.mp fun z => absurd ((Rat.div_lt_iff h).mp z) (Rat.not_lt.mpr k)
theorem div_le {a b c : Rat} (h : 0 < c) (k : b ≤ a * c) : b / c ≤ a := Rat.not_lt.mp fun z => absurd ((Rat.lt_div_iff h).mp z) (Rat.not_lt.mpr k)
theorem rq_nn {t b : Int} (ht : 0 ≤ t) (hb : 0 < b) : 0 ≤ rq t b := by
  have h1 := cast_nn ht
  have h2 := cast_pos hb
  unfold rq
  generalize (t : Rat) = x at *
  generalize (b : Rat) = y at *
  exact le_div h2 (by grind)
theorem rq_pos {t b : Int} (ht : 0 < t) (hb : 0 < b) : 0 < rq t b := by
  have h1 := cast_pos ht
  have h2 := cast_pos hb
  unfold rq
  generalize (t : Rat) = x at *
  generalize (b : Rat) = y at *
  exact (Rat.lt_div_iff h2).mpr (by grind)
theorem rq_lt_one {t b : Int} (ht : t < b) (hb : 0 < b) : rq t b < 1 := by
  have h1 := Rat.intCast_lt_intCast.mpr ht
  have h2 := cast_pos hb
  unfold rq
  generalize (t : Rat) = x at *
  generalize (b : Rat) = y at *
  exact (Rat.div_lt_iff h2).mpr (by grind)
theorem rq_le_one {t b : Int} (ht : t ≤ b) (hb : 0 < b) : rq t b ≤ 1 := by
  have h1 := Rat.intCast_le_intCast.mpr ht
  have h2 := cast_pos hb
  unfold rq
  generalize (t : Rat) = x at *
  generalize (b : Rat) = y at *
  exact div_le h2 (by grind)
theorem rq_add (p q : Rat) : rq (p.num * q.den + q.num * p.den) (p.den * q.den) = p + q := by
  have e1 := rat_nd p
  have e2 := rat_nd q
  have h1 := den_ne p
  have h2 := den_ne q
  unfold rq
  rw [Rat.intCast_add, Rat.intCast_mul, Rat.intCast_mul, Rat.intCast_mul]
  generalize ((p.den : Int) : Rat) = d at *
  generalize (p.num : Rat) = n at *
  generalize ((q.den : Int) : Rat) = d2 at *
  generalize (q.num : Rat) = n2 at *
  grind
theorem rq_sub (p q : Rat) : rq (p.num * q.den - q.num * p.den) (p.den * q.den) = p - q := by
  have e1 := rat_nd p
  have e2 := rat_nd q
  have h1 := den_ne p
  have h2 := den_ne q
  unfold rq
  rw [Rat.intCast_sub, Rat.intCast_mul, Rat.intCast_mul, Rat.intCast_mul]
  generalize ((p.den : Int) : Rat) = d at *
  generalize (p.num : Rat) = n at *
  generalize ((q.den : Int) : Rat) = d2 at *
  generalize (q.num : Rat) = n2 at *
  grind
theorem rq_mul (p q : Rat) : rq (p.num * q.num) (p.den * q.den) = p * q := by
  have e1 := rat_nd p
  have e2 := rat_nd q
  have h1 := den_ne p
  have h2 := den_ne q
  unfold rq
  rw [Rat.intCast_mul, Rat.intCast_mul]
  generalize ((p.den : Int) : Rat) = d at *
  generalize (p.num : Rat) = n at *
  generalize ((q.den : Int) : Rat) = d2 at *
  generalize (q.num : Rat) = n2 at *
  grind
theorem rq_div (p q : Rat) : rq (p.num * q.den) (p.den * q.num) = p / q := by
  have e1 := rat_nd p
  have e2 := rat_nd q
  have h1 := den_ne p
  have h2 := den_ne q
  unfold rq
  rw [Rat.intCast_mul, Rat.intCast_mul]
  generalize ((p.den : Int) : Rat) = d at *
  generalize (p.num : Rat) = n at *
  generalize ((q.den : Int) : Rat) = d2 at *
  generalize (q.num : Rat) = n2 at *
  grind
theorem rq_self (q : Rat) : rq q.num q.den = q := rat_nd q
theorem num_ne {q : Rat} (h : q ≠ 0) : q.num ≠ 0 := fun z => h (by
  have e := rat_nd q
  rw [z] at e
  rw [← e]
  grind)
theorem num_zero {q : Rat} : q.num = 0 ↔ q = 0 := ⟨fun z => Classical.byContradiction fun y => num_ne y z, fun z => by rw [z] <;> rfl⟩
theorem num_pos {q : Rat} : 0 < q.num ↔ 0 < q := by
  have k := Rat.lt_iff 0 q
  simp at k
  exact k.symm
theorem lt_cross (p q : Rat) : (p.num * q.den < q.num * p.den) ↔ p < q := (Rat.lt_iff p q).symm
/-- top and bottom fit so many bits -/
def Sz (n : Nat) (q : Rat) : Prop := q.num.natAbs < 2 ^ n ∧ (q.den : Int).natAbs < 2 ^ n
theorem Sz.up {n m : Nat} {q : Rat} (h : Sz n q) (le : n ≤ m) : Sz m q := ⟨lt_up h.1 le, lt_up h.2 le⟩
theorem sz_rq {t b : Int} {n : Nat} (hb : b ≠ 0) (h1 : t.natAbs < 2 ^ n) (h2 : b.natAbs < 2 ^ n) : Sz n (rq t b) := by
  have k := low_lt h1 h2
  rw [rq_low hb] at k
  exact k
theorem Sz.int {z : Int} {n : Nat} (h : z.natAbs < 2 ^ n) (h0 : 0 < n) : Sz n (z : Rat) := ⟨h, Nat.lt_of_lt_of_le (by decide : (1 : Nat) < 2 ^ 1) (Nat.pow_le_pow_right (by decide) h0)⟩
theorem Sz.neg {n : Nat} {q : Rat} (h : Sz n q) : Sz n (-q) := ⟨by
  show (-q.num).natAbs < 2 ^ n
  rw [Int.natAbs_neg]
  exact h.1, h.2⟩
/-- a fraction that is read -/
def FrQ (K : PySem.W.Frag) (H : Hp) (x : Addr) (q : Rat) : Prop := SqT K H x [.int q.num, .int (q.den : Int)]
theorem FrQ.same {K : PySem.W.Frag} {H H' : Hp} {x : Addr} {q : Rat} (h : FrQ K H x q) (s : Same H H') : FrQ K H' x q := Same.tup s h
theorem FrQ.of {K : PySem.W.Frag} {H : Hp} {x : Addr} {q : Rat} (h : H x = some (.tup [.int q.num, .int (q.den : Int)])) : FrQ K H x q := SqT.of h
theorem FrQ.int {K : PySem.W.Frag} {H : Hp} {x : Addr} {z : Int} (h : H x = some (.tup [.int z, .int 1])) : FrQ K H x (z : Rat) := SqT.of h
/-- a juice that is read -/
def JuQ (K : PySem.W.Frag) (H : Hp) (x : Addr) (s w : Rat) : Prop := ∃ a b, SqT K H x [.ref a, .ref b] ∧ FrQ K H a s ∧ FrQ K H b w
theorem JuQ.same {K : PySem.W.Frag} {H H' : Hp} {x : Addr} {s w : Rat} (h : JuQ K H x s w) (e : Same H H') : JuQ K H' x s w := by
  obtain ⟨a, b, h1, h2, h3⟩ := h
  exact ⟨a, b, Same.tup e h1, h2.same e, h3.same e⟩
theorem JuQ.new {K : PySem.W.Frag} {H : Hp} {x a b : Addr} {s w : Rat} (h : H x = some (.tup [.ref a, .ref b])) (ha : FrQ K H a s) (hb : FrQ K H b w) : JuQ K H x s w := ⟨a, b, SqT.of h, ha, hb⟩
/-- a new pair of two numbers' lowest terms -/
def sp_lowQ (K : PySem.W.Frag) : Sp := fun vs H Q _ => ∃ (t b : Int) (n : Nat), vs = [.int t, .int b] ∧ b ≠ 0 ∧ t.natAbs < 2 ^ n ∧ b.natAbs < 2 ^ n ∧ n ≤ 2000 ∧ ∀ p H', Same H H' → H p = none → FrQ K H' p (rq t b) → Sz n (rq t b) → Q (.ref p) H'
/-- two fractions in, one out -/
def sp_q2 (K : PySem.W.Frag) (f : Rat → Rat → Rat) (ok : Rat → Rat → Prop) : Sp := fun vs H Q _ => ∃ (x y : Addr) (p q : Rat) (m n : Nat), vs = [.ref x, .ref y] ∧ FrQ K H x p ∧ FrQ K H y q ∧ Sz m p ∧ Sz n q ∧ m + n ≤ 1900 ∧ ok p q ∧
  ∀ z H', Same H H' → H z = none → FrQ K H' z (f p q) → Sz (m + n + 1) (f p q) → Q (.ref z) H'
def sp_less (K : PySem.W.Frag) : Sp := fun vs H Q _ => ∃ (x y : Addr) (p q : Rat), vs = [.ref x, .ref y] ∧ FrQ K H x p ∧ FrQ K H y q ∧ Sz 1900 p ∧ Sz 1900 q ∧ Q (.bl (decide (p < q))) H
theorem mulZ {i j : Int} {a b : Nat} (ha : i.natAbs < 2 ^ a) (hb : j.natAbs < 2 ^ b) (h : a + b ≤ 100000) : IntMulOk i j :=
  mulW (lt_up ha (by omega : a ≤ a + 1)) (lt_up hb (by omega : b ≤ b + 1)) (by omega) (by omega) (by omega)
/-! data of the law's own making, tuples of the written part among them -/
inductive Dk (K : PySem.W.Frag) (H : Hp) : Nat → V → PyData → Prop
  | non (n : Nat) : Dk K H (n + 1) .non .none
  | bl (n : Nat) (b : Bool) : Dk K H (n + 1) (.bl b) (.bool b)
  | int (n : Nat) (i : Int) : Dk K H (n + 1) (.int i) (.int i)
  | str (n : Nat) (x : Str) (ok : PyData.canLay0 (.str x) = true) : Dk K H (n + 1) (.str x) (.str x)
  | lst {n : Nat} {a : Addr} {xs : List V} {ds : List PyData} : H a = some (.lst xs) → xs.length = ds.length → xs.length ≤ 100000 → (∀ (i : Nat) (x : V) (d : PyData), xs[i]? = some x → ds[i]? = some d → Dk K H n x d) → Dk K H (n + 1) (.ref a) (.list ds)
  | tup {n : Nat} {a : Addr} {xs : List V} {ds : List PyData} : SqT K H a xs → xs.length = ds.length → xs.length ≤ 100000 → (∀ (i : Nat) (x : V) (d : PyData), xs[i]? = some x → ds[i]? = some d → Dk K H n x d) → Dk K H (n + 1) (.ref a) (.tuple ds)
theorem Dk.same {K : PySem.W.Frag} {H H' : Hp} (s : Same H H') : ∀ {n : Nat} {v : V} {d : PyData}, Dk K H n v d → Dk K H' n v d := by
  intro n v d h
  induction h with
  | non n => exact .non n
  | bl n b => exact .bl n b
  | int n i => exact .int n i
  | str n x ok => exact .str n x ok
  | lst h1 h2 h3 _ ih => exact .lst (s _ _ h1) h2 h3 ih
  | tup h1 h2 h3 _ ih => exact .tup (Same.tup s h1) h2 h3 ih
/-- rows of data beside their values -/
def DkAll (K : PySem.W.Frag) (H : Hp) (n : Nat) (xs : List V) (ds : List PyData) : Prop := xs.length = ds.length ∧ ∀ (i : Nat) (x : V) (d : PyData), xs[i]? = some x → ds[i]? = some d → Dk K H n x d
theorem DkAll.nil {K : PySem.W.Frag} {H : Hp} {n : Nat} : DkAll K H n [] [] := ⟨rfl, fun i x d h => by simp at h⟩
theorem DkAll.cons {K : PySem.W.Frag} {H : Hp} {n : Nat} {x : V} {d : PyData} {xs : List V} {ds : List PyData} (h : Dk K H n x d) (t : DkAll K H n xs ds) : DkAll K H n (x :: xs) (d :: ds) :=
  ⟨by rw [List.length_cons, List.length_cons, t.1], fun i u v hu hv => match i, hu, hv with
    | 0, hu, hv => by cases hu; cases hv; exact h
    | i + 1, hu, hv => t.2 i u v hu hv⟩
/-- the data of a fraction, of a juice -/
def dq (q : Rat) : PyData := .tuple [.int q.num, .int (q.den : Int)]
def dj (s w : Rat) : PyData := .tuple [dq s, dq w]
/-- a fraction or None -/
def OQ (K : PySem.W.Frag) (H : Hp) (v : V) : Option Rat → Prop
  | none => v = .non
  | some q => ∃ x, v = .ref x ∧ FrQ K H x q
theorem OQ.same {K : PySem.W.Frag} {H H' : Hp} {v : V} {o : Option Rat} (h : OQ K H v o) (e : Same H H') : OQ K H' v o := by
  cases o with
  | none => exact h
  | some q =>
    obtain ⟨x, e1, h1⟩ := h
    exact ⟨x, e1, h1.same e⟩
def oq : Option Rat → PyData
  | none => .none
  | some q => dq q
/-- the strength of a juice -/
def stren (s w : Rat) : Option Rat := if s + w = 0 then none else some (s / (s + w))
theorem is_zero {q : Rat} : decide (q.num = 0 ∧ (q.den : Int) = 1) = decide (q = 0) := by
  rw [decide_eq_decide]
  constructor
  · rintro ⟨h, _⟩
    exact num_zero.mp h
  · rintro rfl
    exact ⟨rfl, rfl⟩
/-- boiling -/
def wat (s u : Rat) : Rat := s / u - s
def boil (s w : Rat) (f : Int) (u h : Rat) : Rat := if wat s u < w then (if w - f * h < wat s u then wat s u else w - f * h) else w
theorem rq_wat (s u : Rat) (hu : u ≠ 0) : rq (s.num * ((u.den : Int) - u.num)) (s.den * u.num) = wat s u := by
  have e1 := rat_nd s
  have e2 := rat_nd u
  have h1 := den_ne s
  have h2 := den_ne u
  have h3 := int_ne (num_ne hu)
  unfold rq wat
  rw [Rat.intCast_mul, Rat.intCast_mul, Rat.intCast_sub]
  generalize ((s.den : Int) : Rat) = d at *
  generalize (s.num : Rat) = n at *
  generalize ((u.den : Int) : Rat) = d2 at *
  generalize (u.num : Rat) = n2 at *
  rw [← e1, ← e2]
  grind
theorem Sz.add {m n : Nat} {p q : Rat} (h : Sz m p) (k : Sz n q) : Sz (m + n + 1) (p + q) := by
  rw [← rq_add]
  exact sz_rq (Int.mul_ne_zero (den_ne' p) (den_ne' q)) (lt_up (add_lt (wide_lt h.1 k.2) (lt_up (wide_lt k.1 h.2) (by omega : n + m ≤ m + n))) (by omega)) (lt_up (wide_lt h.2 k.2) (by omega))
theorem Sz.sub {m n : Nat} {p q : Rat} (h : Sz m p) (k : Sz n q) : Sz (m + n + 1) (p - q) := by
  rw [← rq_sub]
  exact sz_rq (Int.mul_ne_zero (den_ne' p) (den_ne' q)) (lt_up (sub_lt (wide_lt h.1 k.2) (lt_up (wide_lt k.1 h.2) (by omega : n + m ≤ m + n))) (by omega)) (lt_up (wide_lt h.2 k.2) (by omega))
theorem Sz.mul {m n : Nat} {p q : Rat} (h : Sz m p) (k : Sz n q) : Sz (m + n) (p * q) := by
  rw [← rq_mul]
  exact sz_rq (Int.mul_ne_zero (den_ne' p) (den_ne' q)) (wide_lt h.1 k.1) (wide_lt h.2 k.2)
theorem Sz.wat {m n : Nat} {s u : Rat} (h : Sz m s) (k : Sz n u) (hu : u ≠ 0) : Sz (m + n + 1) (wat s u) := by
  rw [← rq_wat s u hu]
  exact sz_rq (Int.mul_ne_zero (den_ne' s) (num_ne hu)) (lt_up (wide_lt h.1 (sub_lt k.2 k.1)) (by omega)) (lt_up (wide_lt h.2 k.1) (by omega))
theorem Sz.boil {a b c n N : Nat} {s w u h : Rat} {f : Int} (zs : Sz a s) (zu : Sz n u) (hu : u ≠ 0) (zw : Sz b w) (zh : Sz c h) (hf : f.natAbs < 2 ^ 14) (h1 : a + n + 1 ≤ N) (h2 : b + (14 + c) + 1 ≤ N) : Sz N (KR.boil s w f u h) := by
  unfold KR.boil
  split
  · split
    · exact (Sz.wat zs zu hu).up h1
    · exact (Sz.sub zw (Sz.mul (Sz.int hf (by decide)) zh)).up h2
  · exact zw.up (by omega)
theorem rq_divi (r : Rat) (f : Int) : rq r.num (r.den * f) = r / (f : Rat) := by
  have e := rq_div r (f : Rat)
  rw [← e]
  show rq r.num (r.den * f) = rq (r.num * 1) (r.den * f)
  rw [Int.mul_one]
theorem FrQ.dp {K : PySem.W.Frag} {H : Hp} {x : Addr} {q : Rat} (h : FrQ K H x q) : Dp K H (.ref x) (dq q) := .tup h (.cons (.int _) (.cons (.int _) .nil))
theorem JuQ.dp {K : PySem.W.Frag} {H : Hp} {x : Addr} {s w : Rat} (h : JuQ K H x s w) : Dp K H (.ref x) (dj s w) := by
  obtain ⟨a, b, h1, h2, h3⟩ := h
  exact .tup h1 (.cons h2.dp (.cons h3.dp .nil))
theorem eqv_dq (a b : Rat) : PyData.eqv (dq a) (dq b) = decide (a = b) := by
  refine eqv_pair.trans ?_
  rw [decide_eq_decide]
  constructor
  · rintro ⟨h1, h2⟩
    exact Rat.ext h1 (by omega)
  · rintro rfl
    exact ⟨rfl, rfl⟩
/-- when a juice is ready -/
def ready (s w : Rat) (f : Int) (u : Rat) : Option Rat := if s = 0 then none else if wat s u < w then (if f = 0 then none else some ((w - wat s u) / (f : Rat))) else some 0
/-- a thing is not among those of a tuple -/
def rNoTup (K : PySem.W.Frag) : R2 := fun x y H Q => ∃ d ds, Dp K H x d ∧ Dp K H y (.tuple ds) ∧ PyData.canLay0 d = true ∧ PyData.canLayAll0 ds = true ∧ PyData.depth d ≤ 60 ∧ Q (.bl (!ds.any fun z => PyData.eqv z d)) H
/-- a juice in, a juice and a share in, two juices in -/
def sp_j2 (K : PySem.W.Frag) : Sp := fun vs H Q _ => ∃ (x y : Addr) (s w s' w' : Rat) (m n : Nat), vs = [.ref x, .ref y] ∧ JuQ K H x s w ∧ JuQ K H y s' w' ∧ Sz m s ∧ Sz m w ∧ Sz n s' ∧ Sz n w' ∧ m + n ≤ 1900 ∧
  ∀ z H', Same H H' → JuQ K H' z (s + s') (w + w') → Sz (m + n + 1) (s + s') → Sz (m + n + 1) (w + w') → Q (.ref z) H'
def sp_jt (K : PySem.W.Frag) (f : Rat → Rat) : Sp := fun vs H Q _ => ∃ (x y : Addr) (s w t : Rat) (m n : Nat), vs = [.ref x, .ref y] ∧ JuQ K H x s w ∧ FrQ K H y t ∧ Sz m s ∧ Sz m w ∧ Sz n t ∧ m + n ≤ 900 ∧ n ≤ 400 ∧
  ∀ z H', Same H H' → JuQ K H' z (s * f t) (w * f t) → Sz (m + n + 10) (s * f t) → Sz (m + n + 10) (w * f t) → Q (.ref z) H'
def sp_vol (K : PySem.W.Frag) : Sp := fun vs H Q _ => ∃ (x : Addr) (s w : Rat) (m : Nat), vs = [.ref x] ∧ JuQ K H x s w ∧ Sz m s ∧ Sz m w ∧ m ≤ 900 ∧ ∀ z H', Same H H' → FrQ K H' z (s + w) → Sz (m + m + 1) (s + w) → Q (.ref z) H'
def sp_str (K : PySem.W.Frag) : Sp := fun vs H Q _ => ∃ (x : Addr) (s w : Rat) (m : Nat), vs = [.ref x] ∧ JuQ K H x s w ∧ Sz m s ∧ Sz m w ∧ m ≤ 600 ∧ ∀ v H', Same H H' → OQ K H' v (stren s w) → (∀ q, stren s w = some q → Sz (3 * m + 2) q) → Q v H'
end KR
/-! ### fractions of many bits: a common bottom, a bound -/
namespace KR
open PySem PySem.Spec PyProof.Rows L2
def sp_lowV : Sp := fun vs H Q _ => ∃ t b : Int, vs = [.int t, .int b] ∧ b ≠ 0 ∧ t.natAbs < 2 ^ 8900 ∧ b.natAbs < 2 ^ 8900 ∧ ∀ p H', Same H H' → H p = none → H' p = some (.tup [.int (low t b).1, .int (low t b).2]) → Q (.ref p) H'
def sp_lowW (K : PySem.W.Frag) : Sp := fun vs H Q _ => ∃ t b : Int, vs = [.int t, .int b] ∧ b ≠ 0 ∧ t.natAbs < 2 ^ 8900 ∧ b.natAbs < 2 ^ 8900 ∧ ∀ p H', Same H H' → H p = none → FrQ K H' p (rq t b) → Q (.ref p) H'
theorem lowW {K : PySem.W.Frag} {vs : List V} {H : Hp} {Q : VK} {E : XK} (h : sp_lowW K vs H Q E) : sp_lowV vs H Q E := by
  obtain ⟨t, b, e, hb, h1, h2, q⟩ := h
  refine ⟨t, b, e, hb, h1, h2, fun p H' s hp h' => q p H' s hp ?_⟩
  rw [rq_low hb] at h'
  exact .of h'
abbrev Big (q : Rat) : Prop := Sz 4400 q
def sp_w2 (K : PySem.W.Frag) (f : Rat → Rat → Rat) (ok : Rat → Rat → Prop) : Sp := fun vs H Q _ => ∃ (x y : Addr) (p q : Rat), vs = [.ref x, .ref y] ∧ FrQ K H x p ∧ FrQ K H y q ∧ Big p ∧ Big q ∧ ok p q ∧ ∀ z H', Same H H' → H z = none → FrQ K H' z (f p q) → Q (.ref z) H'
/-- so often as M tells it is a whole number -/
def Dv (M : Nat) (q : Rat) : Prop := ∃ z : Int, q * ((M : Int) : Rat) = (z : Rat)
theorem Dv.zero {M : Nat} : Dv M 0 := ⟨0, by rw [Rat.zero_mul]; rfl⟩
theorem Dv.int {M : Nat} (i : Int) : Dv M (i : Rat) := ⟨i * M, by rw [Rat.intCast_mul]⟩
theorem Dv.add {M : Nat} {p q : Rat} (h : Dv M p) (k : Dv M q) : Dv M (p + q) := by
  obtain ⟨a, ea⟩ := h
  obtain ⟨b, eb⟩ := k
  exact ⟨a + b, by rw [Rat.add_mul, ea, eb, Rat.intCast_add]⟩
theorem Dv.neg {M : Nat} {p : Rat} (h : Dv M p) : Dv M (-p) := by
  obtain ⟨a, ea⟩ := h
  exact ⟨-a, by rw [Rat.neg_mul, ea, Rat.intCast_neg]⟩
theorem Dv.sub {M : Nat} {p q : Rat} (h : Dv M p) (k : Dv M q) : Dv M (p - q) := by
  rw [Rat.sub_eq_add_neg]
  exact h.add k.neg
theorem Dv.mul {M N : Nat} {p q : Rat} (h : Dv M p) (k : Dv N q) : Dv (M * N) (p * q) := by
  obtain ⟨a, ea⟩ := h
  obtain ⟨b, eb⟩ := k
  refine ⟨a * b, ?_⟩
  rw [Rat.intCast_mul, ← ea, ← eb, Int.natCast_mul, Rat.intCast_mul]
  generalize ((M : Int) : Rat) = m
  generalize ((N : Int) : Rat) = n
  grind
theorem Dv.up {M N : Nat} {q : Rat} (h : Dv M q) (d : M ∣ N) : Dv N q := by
  obtain ⟨a, ea⟩ := h
  obtain ⟨k, rfl⟩ := d
  refine ⟨a * k, ?_⟩
  rw [Rat.intCast_mul, ← ea, Int.natCast_mul, Rat.intCast_mul]
  generalize ((M : Int) : Rat) = m
  generalize ((k : Int) : Rat) = n
  grind
theorem Dv.rq {t b : Int} (hb : 0 < b) : Dv b.natAbs (KR.rq t b) := by
  refine ⟨t, ?_⟩
  have e : ((b.natAbs : Nat) : Int) = b := by omega
  rw [e]
  have h := int_ne (show b ≠ 0 by omega)
  unfold KR.rq
  generalize (t : Rat) = x
  generalize (b : Rat) = y at *
  grind
theorem Dv.den (q : Rat) : Dv q.den q := by
  have k := Dv.rq (t := q.num) (b := (q.den : Int)) (by have := q.den_pos; omega)
  rw [rq_self, Int.natAbs_natCast] at k
  exact k
theorem rat_le_abs {z : Int} {M B : Nat} {q : Rat} (e : q * ((M : Int) : Rat) = (z : Rat)) (lo : -((B : Int) : Rat) ≤ q) (hi : q ≤ ((B : Int) : Rat)) : z.natAbs ≤ B * M := by
  have m0 := cast_nn (show (0 : Int) ≤ (M : Int) by omega)
  have k1 := Rat.mul_le_mul_of_nonneg_right hi m0
  have k2 := Rat.mul_le_mul_of_nonneg_right lo m0
  rw [e, ← Rat.intCast_mul] at k1
  rw [e, ← Rat.intCast_neg, ← Rat.intCast_mul] at k2
  have h1 := Rat.intCast_le_intCast.mp k1
  have h2 := Rat.intCast_le_intCast.mp k2
  have h3 : -(B : Int) * (M : Int) = -((B : Int) * (M : Int)) := Int.neg_mul _ _
  rw [h3] at h2
  have h4 : ((B * M : Nat) : Int) = (B : Int) * (M : Int) := Int.natCast_mul _ _
  omega
/-- what has a common bottom and a bound is not long -/
theorem Dv.sz {M B n : Nat} {q : Rat} (h : Dv M q) (hM : 0 < M) (lo : -((B : Int) : Rat) ≤ q) (hi : q ≤ ((B : Int) : Rat)) (b1 : 1 ≤ B) (fit : B * M < 2 ^ n) : Sz n q := by
  obtain ⟨z, e⟩ := h
  have k := rat_le_abs e lo hi
  have m1 : M ≤ B * M := Nat.le_mul_of_pos_left M b1
  have eq : q = KR.rq z (M : Int) := by
    have h := int_ne (show (M : Int) ≠ 0 by omega)
    unfold KR.rq
    rw [← e]
    generalize ((M : Int) : Rat) = y at *
    grind
  rw [eq]
  exact sz_rq (by omega) (Nat.lt_of_le_of_lt k fit) (by rw [Int.natAbs_natCast]; exact Nat.lt_of_le_of_lt m1 fit)
/-- rows of fractions -/
abbrev Fz := Addr × Rat
def rz (l : List Fz) : List V := l.map fun z => V.ref z.1
def FL (K : PySem.W.Frag) (H : Hp) (l : List Fz) : Prop := ∀ z ∈ l, FrQ K H z.1 z.2
theorem FL.nil {K : PySem.W.Frag} {H : Hp} : FL K H [] := fun z hz => absurd hz List.not_mem_nil
/-- all together -/
def zsum : List Rat → Rat
  | [] => 0
  | q :: r => q + zsum r
theorem Dv.all {M : Nat} {l : List Rat} (h : ∀ q ∈ l, Dv M q) : Dv M (zsum l) := by
  induction l with
  | nil => exact .zero
  | cons q r ih => exact (h q List.mem_cons_self).add (ih fun y hy => h y (List.mem_cons_of_mem _ hy))
/-- rows of fractions that may be added one after another -/
def AddOk (l : List Rat) : Prop := ∀ i, i ≤ l.length → Big (zsum (l.take i))
/-- a part: from 0 to 1, its bottom at most 12 -/
structure Part (q : Rat) : Prop where
  lo : 0 ≤ q
  hi : q ≤ 1
  bt : q.den ≤ 12
theorem den_le {t b : Int} (hb : 0 < b) : ((rq t b).den : Int) ≤ b := by
  have e := rq_low (t := t) (b := b) (by omega)
  have k : (low t b).2 = ((rq t b).den : Int) := by rw [e]
  rw [← k]
  show (b.natAbs : Int) / (Nat.gcd t.natAbs b.natAbs : Int) ≤ b
  have g : (0 : Int) < (Nat.gcd t.natAbs b.natAbs : Int) := by
    have := Nat.gcd_pos_of_pos_right t.natAbs (show 0 < b.natAbs by omega)
    omega
  have h := Int.ediv_le_self (a := (b.natAbs : Int)) (Nat.gcd t.natAbs b.natAbs : Int) (by omega)
  omega
end KR
/-! ### len(set(texts)) -/
namespace KR
open PySem PySem.Spec PyProof.Rows L2
/-- each text once, as it first comes -/
def dd : List Str → List Str → List Str
  | acc, [] => acc
  | acc, x :: xs => dd (if x ∈ acc then acc else acc ++ [x]) xs
def dist (xs : List Str) : List Str := dd [] xs
theorem dd_app (ys : List Str) : ∀ (xs acc : List Str), dd acc (xs ++ ys) = dd (dd acc xs) ys
  | [], _ => rfl
  | x :: xs, acc => dd_app ys xs _
theorem dist_snoc (xs : List Str) (x : Str) : dist (xs ++ [x]) = if x ∈ dist xs then dist xs else dist xs ++ [x] := dd_app [x] xs []
theorem mem_dd {y : Str} : ∀ (xs acc : List Str), y ∈ dd acc xs ↔ y ∈ acc ∨ y ∈ xs
  | [], acc => by simp [dd]
  | x :: xs, acc => by
    unfold dd
    rw [mem_dd xs, List.mem_cons]
    by_cases h : x ∈ acc
    · rw [if_pos h]
      constructor
      · rintro (k | k)
        · exact .inl k
        · exact .inr (.inr k)
      · rintro (k | rfl | k)
        · exact .inl k
        · exact .inl h
        · exact .inr k
    · rw [if_neg h, List.mem_append, List.mem_singleton, or_assoc]
theorem mem_dist {y : Str} {xs : List Str} : y ∈ dist xs ↔ y ∈ xs := by
  rw [show dist xs = dd [] xs from rfl, mem_dd] <;> simp
theorem dd_le : ∀ (xs acc : List Str), (dd acc xs).length ≤ acc.length + xs.length
  | [], acc => Nat.le_refl _
  | x :: xs, acc => by
    unfold dd
    refine Nat.le_trans (dd_le xs _) ?_
    split <;> simp <;> omega
theorem dist_le (xs : List Str) : (dist xs).length ≤ xs.length := by
  have h := dd_le xs []
  rw [List.length_nil, Nat.zero_add] at h
  exact h
theorem dd_nodup : ∀ (xs acc : List Str), acc.Nodup → (dd acc xs).Nodup
  | [], _, h => h
  | x :: xs, acc, h => by
    unfold dd
    refine dd_nodup xs _ ?_
    split
    · exact h
    · rename_i c
      rw [List.nodup_append]
      exact ⟨h, by simp, fun a ha b hb => by rw [List.mem_singleton.mp hb]; intro e; exact c (e ▸ ha)⟩
theorem dist_nodup (xs : List Str) : (dist xs).Nodup := dd_nodup xs [] List.nodup_nil
/-- as many as there are texts: no two are alike -/
theorem dd_full : ∀ (xs acc : List Str), (acc ++ xs).Nodup → dd acc xs = acc ++ xs
  | [], acc, _ => by rw [List.append_nil] <;> rfl
  | x :: xs, acc, h => by
    have c : x ∉ acc := fun m => by
      rw [List.nodup_append] at h
      exact h.2.2 x m x List.mem_cons_self rfl
    unfold dd
    rw [if_neg c, dd_full xs (acc ++ [x]) (by rw [List.append_assoc]; exact h), List.append_assoc] <;> rfl
theorem dist_full {xs : List Str} (h : xs.Nodup) : dist xs = xs := dd_full xs [] h
theorem dd_less : ∀ (xs acc : List Str), acc.Nodup → ¬ (acc ++ xs).Nodup → (dd acc xs).length < acc.length + xs.length
  | [], acc, h, k => absurd (by rw [List.append_nil]; exact h) k
  | x :: xs, acc, h, k => by
    unfold dd
    by_cases c : x ∈ acc
    · rw [if_pos c]
      have := dd_le xs acc
      rw [List.length_cons]
      omega
    · rw [if_neg c]
      have e := dd_less xs (acc ++ [x]) (by rw [List.nodup_append]; exact ⟨h, by simp, fun a ha b hb => by rw [List.mem_singleton.mp hb]; intro e; exact c (e ▸ ha)⟩) (by rw [List.append_assoc]; exact k)
      rw [List.length_append, List.length_singleton] at e
      rw [List.length_cons]
      omega
theorem dist_len {xs : List Str} : (dist xs).length = xs.length ↔ xs.Nodup := by
  constructor
  · intro e
    apply Classical.byContradiction
    intro k
    have := dd_less xs [] List.nodup_nil k
    rw [show dd [] xs = dist xs from rfl] at this
    simp at this
    omega
  · intro h
    rw [dist_full h]
section
variable {prog : Program} {w : World} {A : Around} {E : Value → Shared → Prop} {s : Shared}
/-- the set at S holds the first i texts -/
abbrev Holds1 (prog : Program) (w : World) (S : Addr) (xs : List Str) (i : Nat) (h : Heap) : Prop := h.SetOf (PySem.strKind prog w) S (fun k => (dist (xs.take i)).any (· == k)) (dist (xs.take i)).length
theorem holds1_step {S : Addr} {xs : List Str} {i : Nat} {x : Str} {h : Heap} (e : xs[i]? = some x)
    (hs : h.SetOf (PySem.strKind prog w) S (fun k => (dist (xs.take i)).any (· == k) || decide (k = x)) (if (dist (xs.take i)).any (· == x) = true then (dist (xs.take i)).length else (dist (xs.take i)).length + 1)) : Holds1 prog w S xs (i + 1) h := by
  have t : xs.take (i + 1) = xs.take i ++ [x] := by rw [List.take_add_one, e] <;> rfl
  have mem : (dist (xs.take i)).any (· == x) = true ↔ x ∈ dist (xs.take i) := by rw [List.any_eq_true] <;> simp
  refine SetOf_congr hs (fun k => ?_) ?_
  · rw [t, dist_snoc]
    by_cases c : x ∈ dist (xs.take i)
    · rw [if_pos c]
      by_cases kx : k = x
      · subst kx
        rw [mem.mpr c] <;> rfl
      · rw [decide_eq_false kx, Bool.or_false]
    · rw [if_neg c, List.any_append]
      by_cases kx : k = x
      · subst kx
        simp
      · have kx2 : ¬ x = k := fun z => kx z.symm
        simp [kx, kx2]
  · rw [t, dist_snoc]
    by_cases c : x ∈ dist (xs.take i)
    · rw [if_pos c, if_pos (mem.mpr c)]
    · rw [if_neg c, if_neg fun z => c (mem.mp z), List.length_append] <;> rfl
theorem update_texts {R : Result → Shared → Prop} {it S : Addr} {fp wr : List Addr} {G : Array GenState → Array GenState → Prop} {P : Nat → Value → Prop} {St : Nat → Shared → Prop} {xs : List Str} (W : WalksS prog w A.in1 it fp wr G xs.length P St) (hS : S ∉ fp) (hn : xs.length < 4000)
    (val : ∀ i v, P i v → ∃ x t, xs[i]? = some x ∧ v = .str x t) :
    ∀ (k i : Nat) (s : Shared), i + k = xs.length → St i s → Holds1 prog w S xs i s.heap → (∀ s', Moved (S :: wr) G s s' → Holds1 prog w S xs xs.length s'.heap → R (.ok (.ret .none)) s') →
      codeAny (model prog w) A (.builtin "set.update.loop" ⟨[.ref S, .ref it], []⟩) R s := by
  have nw : S ∉ wr := fun z => hS (W.sub _ z)
  have up : ∀ b ∈ wr, b ∈ S :: wr := fun b z => List.mem_cons_of_mem _ z
  have moved : ∀ {j : Nat} {s s' : Shared}, Moved wr G s s' → Holds1 prog w S xs j s.heap → Holds1 prog w S xs j s'.heap := fun {j s s'} m ⟨o, es, ep, t, ho, r⟩ => ⟨o, es, ep, t, m.heap S _ nw ho, r⟩
  intro k
  induction k with
  | zero =>
    intro i s e st hs fin
    obtain rfl : i = xs.length := e
    apply codeAny_builtin (PyProof.Rows.F.entry_set_update_loop)
    rw [Around.under_plainId (PyProof.Rows.F.plain_set_update_loop) _]
    show wpAny (model prog w) A.in1 (pyNext (.ref it) >>= _) _ _ s
    refine wpAny_bind (W.done s _ _ st fun s' m => ?_)
    show wpAny (model prog w) A.in1 (ret Value.none) _ _ s'
    exact wpAny_pure (fin s' (m.mono up) (moved m hs))
  | succ k ih =>
    intro i s e st hs fin
    apply codeAny_builtin (PyProof.Rows.F.entry_set_update_loop)
    rw [Around.under_plainId (PyProof.Rows.F.plain_set_update_loop) _]
    show wpAny (model prog w) A.in1 (pyNext (.ref it) >>= _) _ _ s
    refine wpAny_bind (W.item i s _ _ (by omega) st fun v s' hP st' m => ?_)
    obtain ⟨x, t, hx, rfl⟩ := val i v hP
    have hs' := moved m hs
    show wpAny (model prog w) A.in1 (holding [Value.str x t] (setAdd S (.str x t)) >>= _) _ _ s'
    refine wpAny_bind (wpAny_holding ?_)
    unfold setAdd
    refine wpAny_holding (wpAny_bind ((PySem.strKind prog w).pyHash (k := x) (strKind_is _ _ _ _) ?_))
    have room : (dist (xs.take i)).length + 1 < scanBound := by
      have z1 := dist_le (xs.take i)
      have z2 : (xs.take i).length ≤ xs.length := by rw [List.length_take]; omega
      unfold scanBound
      omega
    refine wpAny_setAddHashed_of (knd := PySem.strKind prog w) (s := { s' with toks := s'.toks + 1 }) (strKind_is _ _ _ _) rfl hs' room fun h' sb new => ?_
    refine wpAny_pure ⟨plainId_quiet (PyProof.Rows.F.plain_set_update_loop) _, ih (i + 1) _ (by omega) (W.frame _ s' _ _ st' (Nat.le_succ _) fun b hb o g => ?_) (holds1_step hx new) fun s'' m2 h2 => ?_⟩
    · rw [sb.2 b fun z : b = S => hS (z ▸ hb)]
      exact g
    · refine fin s'' (Moved.trans W.gtrans ((m.mono up).then_heap (Nat.le_succ _) fun b o hb g => ?_) m2) h2
      rw [sb.2 b fun z : b = S => hb (by rw [z]; exact List.mem_cons_self)]
      exact g
theorem holds1_zero {led : Bool} {S : Addr} {xs : List Str} {h : Heap} (e : h.get? S = some { cls := .type "set", dict := none, data := .set #[] 0 (.fresh 0 0 led) }) : Holds1 prog w S xs 0 h :=
  PyProof.Rows.SetOf_congr ((PyProof.Rows.setObjOf_fresh (knd := PySem.strKind prog w) led).setOf e (by unfold scanBound; omega)) (fun _ => rfl) rfl
set_option maxHeartbeats 8000000 in
/-- set(a list of texts) -/
theorem set_texts {l : Addr} {items : Array Value} {xs : List Str} {Q : Value → Shared → Prop} (calm : A.handled = none) (hl : s.heap.IsList l items) (len : xs.length = items.size) (few : xs.length < 4000) (val : ∀ (i : Nat) (v : Value), items[i]? = some v → ∃ (x : Str) (t : Tok), xs[i]? = some x ∧ v = Value.str x t)
    (want : ∀ (h' : Heap) (tk : Nat), Holds1 prog w s.heap.objs.size xs xs.length h' → (∀ b o, b < s.heap.objs.size → s.heap.get? b = some o → h'.get? b = some o) → Q (.ref s.heap.objs.size) { s with heap := h', toks := tk }) :
    wpAny (model prog w) A (call (.type "set") [.ref l]) Q E s := by
  obtain ⟨c, tl, hmro⟩ := (PySem.F.called_set).mro
  have made := (PySem.F.called_set).made
  have sub := (PySem.F.called_set).sub
  apply wpAny_call
  apply codeAny_of_tree
  show wpAny (model prog w) _ (callAny (.type "set") _) _ _ _
  refine wpAny_pure ⟨Code.quiet_builtin _ (by decide +kernel), codeAny_builtin (PySem.F.entry_type_call) ?_⟩
  rw [Around.under_plain (weight_type_call_type "set" [.ref l] []) rfl]
  have notT := (PySem.F.called_set).notType
  have canC := (PySem.F.called_set).canCreate
  have tcall := PySem.F.typeCall_set_1 (.ref l)
  repeat (any_goals (first | assumption | wp_step))
  generalize hob : (fun led : Bool => ({ cls := .type "set", dict := none, data := .set #[] 0 (.fresh 0 0 led) } : Obj)) = ob
  have obE : ∀ led, ob led = { cls := .type "set", dict := none, data := .set #[] 0 (.fresh 0 0 led) } := fun led => by rw [← hob]
  refine codeAny_mono (code_set_new_1 (.ref l) (E := E) (Q₁ := fun o s1 => ∃ led : Bool, o = .ref s.heap.objs.size ∧ s1 = { s with heap := s.heap.push (ob led) }) fun led => ⟨led, rfl, by rw [obE]⟩) fun r s1 hr => ?_
  match r, hr with
  | .error _, hr => exact hr
  | .ok .next, hr => exact hr.elim
  | .ok .brk, hr => exact hr.elim
  | .ok .cont, hr => exact hr.elim
  | .ok (.ret o), hr =>
    obtain ⟨led, rfl, rfl⟩ := hr
    have atS : (s.heap.push (ob led)).get? s.heap.objs.size = some (ob led) := Heap.get?_push_size _ (by rw [obE] <;> rfl)
    have tyS : Shared.TypeIs { s with heap := s.heap.push (ob led) } (.ref s.heap.objs.size) "set" := ⟨_, atS, by rw [obE]⟩
    have init1 := (PySem.F.called_set).init.lookup
    have init2 := (PySem.F.called_set).init.bind (.ref s.heap.objs.size)
    repeat (any_goals (first | assumption | wp_step))
    refine codeAny_mono (codeAny_call_builtin (R := wants (fun r s2 => r = .none ∧ ∃ h' tk, s2 = { s with heap := h', toks := tk } ∧ Holds1 prog w s.heap.objs.size xs xs.length h' ∧ (∀ b o, b < s.heap.objs.size → s.heap.get? b = some o → h'.get? b = some o)) E)
      (PySem.F.called_set).init.plain (PySem.F.entry_set_init) (check_set_init_1 tyS ?_)) fun r2 s2 hr2 => ?_
    · obtain ⟨⟨ocls, odict, odata, oslots⟩, lo, lc, nl, ld⟩ := hl
      simp only at lc ld
      subst lc ld
      have lo' := Heap.get?_push_of_some (ob led) lo
      have nset := PySem.F.sub_list_set
      have nfro := PySem.F.sub_list_frozenset
      have ndict : (Value.type "list" == Value.type "dict") = false := by decide
      have isl : (s.heap.push (ob led)).IsList l items := ⟨_, lo', rfl, nl, rfl⟩
      have lltS : l < s.heap.objs.size := Heap.lt_size lo
      have obd : (ob led).data = .set #[] 0 (.fresh 0 0 led) := by rw [obE]
      unfold Builtin.«set.__init__» noKeywords Builtin.Frozenset.updateFrom
      generalize held : pyIter = walkOf
      wp_walk
      rw [obd]
      wp_walk
      subst held
      refine wpAny_pyIter_list (items := items) ?_ ?_
      · exact isl
      refine wpAny_bind (m := runValue _) (wpAny_runValue ?_)
      have calm3 : A.in1.in1.in1.handled = none := by simp [calm]
      have szp : (s.heap.push (ob led)).objs.size = s.heap.objs.size + 1 := Heap.size_push ..
      have apart : l ≠ (s.heap.push (ob led)).objs.size := by
        rw [szp]
        exact Nat.ne_of_lt (Nat.lt_succ_of_lt lltS)
      have notin : s.heap.objs.size ∉ [(s.heap.push (ob led)).objs.size, l] := fun z => by
        rcases List.mem_cons.mp z with z | z
        · rw [szp] at z
          exact absurd z (Nat.ne_of_lt (Nat.lt_succ_self _))
        · exact absurd (List.mem_singleton.mp z) (Nat.ne_of_gt lltS)
      have W := (Walks.list (prog := prog) (w := w) calm3 (s.heap.push (ob led)).objs.size l apart items).toS
      rw [← len] at W
      refine update_texts W notin few val xs.length 0 _ (by omega) ⟨⟨_, Heap.get?_push_size _ rfl, rfl, rfl⟩, isl.push _⟩ (holds1_zero (led := led) ?_) fun s' m hs => ?_
      · rw [← obE]
        exact Heap.get?_push_of_some _ atS
      · obtain ⟨h', g', d', tk', os'⟩ := s'
        obtain rfl : g' = s.gens := m.gens
        obtain rfl : d' = s.drawn := m.drawn
        obtain rfl : os' = s.os := m.os
        refine wpAny_pure ?_
        show wpAny (model prog w) _ (ret Value.none) _ _ _
        refine wpAny_pure ⟨rfl, h', tk', rfl, hs, fun b o hb e => m.heap b o (fun z => ?_) (Heap.get?_push_of_some _ (Heap.get?_push_of_some _ e))⟩
        rcases List.mem_cons.mp z with z | z
        · exact absurd z (Nat.ne_of_lt hb)
        · rw [List.mem_singleton.mp z, szp] at hb
          exact absurd hb (Nat.not_lt.mpr (Nat.le_succ _))
    · match r2, hr2 with
      | .error _, hr2 => exact hr2
      | .ok .next, hr2 => exact hr2.elim
      | .ok .brk, hr2 => exact hr2.elim
      | .ok .cont, hr2 => exact hr2.elim
      | .ok (.ret r), hr2 =>
        obtain ⟨rfl, h', tk, rfl, hs, hk⟩ := hr2
        repeat (any_goals (first | assumption | wp_step))
        exact want _ _ hs hk
end
/-- len(set(xs)), xs a list of texts -/
def tLenSetS (K : PySem.W.Frag) (ta : TE) : TE := fun σ H Q => ta σ H fun x H1 => ∃ (l : Addr) (xs : List Str), x = .ref l ∧ SqL K H1 l (xs.map V.str) ∧ xs.length < 4000 ∧ Q (.int ((dist xs).length : Nat)) H1
theorem pe_lenSetS {X : Cx} {K : PySem.W.Frag} (hK : X.K = K) {a : Expr} {ta : TE} {p p2 q pos : Pos} (hg : Gl X "len") (hm : X.mg "len" = none) (hg2 : Gl X "set") (hm2 : X.mg "set" = none) (ha : PE X a ta) (hc : X.calm = true := by rfl)
    (na : starEach [a] X.env = (false, eval a X.env) :: starEach [] X.env := by rfl) : PE X (.Call (.Name "len" p) [.Call (.Name "set" p2) [a] [] q] [] pos) (tLenSetS K ta) := by
  subst hK
  constructor
  intro pins s σ H Q I want
  refine Call_ (ld_blt I hg hm boot_len (PyProof.Rows.callWith_builtin1 (PyProof.Rows.args_cons ?_ rfl) rfl rfl))
  refine Call_ (ld_blt I hg2 hm2 boot_set (PyProof.Rows.callWith_type1 (PyProof.Rows.args_cons (thn (ha.run pins s σ H _ I want) fun v s1 ⟨x, H1, I1, r1, l, xs, ex, hq, few, q1⟩ => PyProof.Rows.args_nil ?_) na) na rfl))
  subst ex
  cases r1
  obtain ⟨its, r, pl, hz⟩ := I1.list hq
  have len : xs.length = its.toArray.size := by rw [List.size_toArray, ← r.length, List.length_map]
  refine set_texts (I1.ok.hd hc) pl.isList len few (fun i v hv => ?_) fun h' tk hs hk => ?_
  · have hv2 : its[i]? = some v := by simpa using hv
    have lt : i < xs.length := by rw [len, List.size_toArray]; exact (List.getElem?_eq_some_iff.mp hv2).1
    have hx : xs[i]? = some xs[i] := List.getElem?_eq_getElem lt
    obtain ⟨u, hu, ru⟩ := r.get (show (xs.map V.str)[i]? = some (.str xs[i]) by rw [List.getElem?_map, hx] <;> rfl)
    rw [hv2] at hu
    cases hu
    obtain ⟨t, e⟩ := (show ∃ t, v = Value.str xs[i] t from ru)
    exact ⟨xs[i], t, hx, e⟩
  · refine PyProof.Rows.args_nil ?_
    unfold Holds1 at hs
    rw [List.take_length] at hs
    obtain ⟨o, es, ep, t, ho, hex, hd, _, _, _, hf, hn⟩ := hs
    have I2 : Inv X pins σ H1 { s1 with heap := h', toks := tk } := I1.kept fun b o e => hk b o (Heap.lt_size e) e
    have le := dist_le xs
    exact call_len_set ho hex hd hf (by rw [hn] <;> omega) ⟨.int (dist xs).length, H1, I2.tok _, ⟨_, by rw [hn]⟩, q1⟩
end KR
/-! ### a < b < c <= d; a row's parts -/
namespace KR
open PySem PySem.Spec PyProof.Rows L2
section
variable {X : Cx} {a b c d : Expr} {ta tb tc td : TE} {pos : Pos}
def tChain3 (r r' r2 : R2) (ta tb tc td : TE) : TE := fun σ H Q => ta σ H fun x H1 => tb σ H1 fun y H2 => r x y H2 fun z H3 => ∃ k, z = .bl k ∧
  (if k = true then tc σ H3 fun u H4 => r' y u H4 fun z H5 => ∃ k, z = .bl k ∧ (if k = true then td σ H5 fun v H6 => r2 u v H6 Q else Q (.bl false) H5) else Q (.bl false) H3)
theorem pe_chain3 {op op' op2 : CmpOp} {r r' r2 : R2} (ho : OpR X (compareOp op) r) (ho' : OpR X (compareOp op') r') (ho2 : OpR X (compareOp op2) r2) (ha : PE X a ta) (hb : PE X b tb) (hc : PE X c tc) (hd : PE X d td)
    (hm : lastMarks [op, op', op2] [b, c, d] = false := by with_unfolding_all rfl) : PE X (.Compare a [op, op', op2] [b, c, d] pos) (tChain3 r r' r2 ta tb tc td) := by
  constructor
  intro pins s σ H Q I h
  refine Compare_chain (thn (ha.run pins s σ H _ I h) fun v s1 ⟨x, H1, I1, r1, q1⟩ => chain_link (thn (hb.run pins s1 σ H1 _ I1 q1) fun u s2 ⟨y, H2, I2, r2', q2⟩ => thn (ho pins s2 σ H2 x y v u _ I2 r1 r2' q2) fun e s3 ⟨z, H3, I3, r3, k, ez, q3⟩ => ?_)) hm
  subst ez
  cases r3
  refine wpAny_truthy_bool ?_
  cases k with
  | false => exact ite_ff ⟨.bl false, H3, I3, rfl, q3⟩
  | true =>
    refine ite_tt (chain_link (thn (hc.run pins s3 σ H3 _ I3 q3) fun u2 s4 ⟨y2, H4, I4, r4, q4⟩ => thn (ho' pins s4 σ H4 y y2 u u2 _ I4 r2' r4 q4) fun e2 s5 ⟨z2, H5, I5, r5, k2, ez2, q5⟩ => ?_))
    subst ez2
    cases r5
    refine wpAny_truthy_bool ?_
    cases k2 with
    | false => exact ite_ff ⟨.bl false, H5, I5, rfl, q5⟩
    | true => exact ite_tt (chain_last (thn (hd.run pins s5 σ H5 _ I5 q5) fun u3 s6 ⟨y3, H6, I6, r6, q6⟩ => ho2 pins s6 σ H6 y2 y3 u2 u3 Q I6 r4 r6 q6))
end
end KR
/-! ### kettles and moulds of a row -/
namespace KR
open PySem PySem.Spec PyProof.Rows L2
/-- two tuples, one behind the other: none of the first, or the second, is empty -/
def rCatTI (K : PySem.W.Frag) : R2 := fun x y H Q => ∃ a b xs ys, x = .ref a ∧ y = .ref b ∧ SqT K H a xs ∧ SqT K H b ys ∧ xs ≠ [] ∧ xs.length + ys.length ≤ sizeLine ∧ ∀ p H', Same H H' → SqT K H' p (xs ++ ys) → Q (.ref p) H'
/-- what is a tuple stays one -/
def TK (K : PySem.W.Frag) (H H' : Hp) : Prop := ∀ b xs, SqT K H b xs → SqT K H' b xs
/-- a NAME -/
structure Nm (x : Str) : Prop where
  lo : 1 ≤ x.length
  hi : x.length ≤ 8
  az : ∀ c ∈ TL.tl x, 97 ≤ c ∧ c ≤ 122
structure KetV (x : Str) (r f t b : Int) : Prop where
  nm : Nm x
  r0 : 1 ≤ r
  r1 : r ≤ 1000000
  f0 : 0 ≤ f
  f1 : f ≤ 10000
  t0 : 0 < t
  tb : t < b
  b1 : b ≤ 60
  cop : Nat.gcd t.natAbs b.natAbs = 1
structure MouV (x : Str) (r t b : Int) : Prop where
  nm : Nm x
  r0 : 1 ≤ r
  r1 : r ≤ 1000000
  t0 : 0 ≤ t
  tb : t < b
  b1 : b ≤ 12
  cop : Nat.gcd t.natAbs b.natAbs = 1
/-- a kettle of this name and data is read at v; a mould -/
def KetAt (K : PySem.W.Frag) (H : Hp) (v : V) (x : Str) (d : PyData) : Prop := ∃ (a m : Addr) (r f t b : Int), v = .ref a ∧ SqT K H a [.str x, .int r, .int f, .ref m] ∧ SqT K H m [.int t, .int b] ∧ KetV x r f t b ∧ d = .tuple [.str x, .int r, .int f, .tuple [.int t, .int b]]
def MouAt (K : PySem.W.Frag) (H : Hp) (v : V) (x : Str) (d : PyData) : Prop := ∃ (a m : Addr) (r t b : Int), v = .ref a ∧ SqT K H a [.str x, .int r, .ref m] ∧ SqT K H m [.int t, .int b] ∧ MouV x r t b ∧ d = .tuple [.str x, .int r, .tuple [.int t, .int b]]
/-- a row of such things -/
structure AllAt (At : V → Str → PyData → Prop) (vs : List V) (ns : List Str) (ds : List PyData) : Prop where
  ln : vs.length = ns.length
  ld : vs.length = ds.length
  at_ : ∀ (i : Nat) (v : V) (x : Str) (d : PyData), vs[i]? = some v → ns[i]? = some x → ds[i]? = some d → At v x d
section
variable {K : PySem.W.Frag} {H H' H2 : Hp} {v : V} {x : Str} {d : PyData} {vs ws : List V} {ns ms : List Str} {ds es : List PyData}
theorem TK.refl : TK K H H := fun _ _ h => h
theorem TK.trans (a : TK K H H') (b : TK K H' H2) : TK K H H2 := fun c xs h => b c xs (a c xs h)
theorem TK.sm (s : Sm H H') : TK K H H' := fun _ _ h => s.tup h
theorem TK.same (s : Same H H') : TK K H H' := fun _ _ h => Same.tup s h
/-- what is written where a list, an instance stands -/
theorem TK.upd {D : Addr} {o o2 : HO} (h : H D = some o) (n1 : ∀ xs, o ≠ .tup xs) (n2 : ∀ b y, o ≠ .frz b y) : TK K H (upd H D o2) := fun b xs e => by
  rcases e with (e | ⟨q, e⟩) | e
  · exact .inl (.inl (by rw [upd_ne fun z => n1 xs (by rw [z, h] at e; exact Option.some.inj e)]; exact e))
  · exact .inl (.inr ⟨q, by rw [upd_ne fun z => n2 _ _ (by rw [z, h] at e; exact Option.some.inj e)]; exact e⟩)
  · exact .inr e
theorem TK.fs {p : Addr} (h : ∀ xs, H p ≠ some (.tup xs)) (n2 : ∀ b y, H p ≠ some (.frz b y)) (s : Fs p H H') : TK K H H' := fun b xs e => by
  rcases e with (e | ⟨q, e⟩) | e
  · exact .inl (.inl (s.keep _ _ (fun z => h xs (by rw [← z]; exact e)) e nofun))
  · exact .inl (.inr ⟨q, s.keep _ _ (fun z => n2 _ _ (by rw [← z]; exact e)) e nofun⟩)
  · exact .inr e
theorem KetAt.tk (s : TK K H H') (h : KetAt K H v x d) : KetAt K H' v x d := by
  obtain ⟨a, m, r, f, t, b, e, h1, h2, k, z⟩ := h
  exact ⟨a, m, r, f, t, b, e, s _ _ h1, s _ _ h2, k, z⟩
theorem MouAt.tk (s : TK K H H') (h : MouAt K H v x d) : MouAt K H' v x d := by
  obtain ⟨a, m, r, t, b, e, h1, h2, k, z⟩ := h
  exact ⟨a, m, r, t, b, e, s _ _ h1, s _ _ h2, k, z⟩
theorem AllAt.map {A B : V → Str → PyData → Prop} (h : AllAt A vs ns ds) (k : ∀ v x d, A v x d → B v x d) : AllAt B vs ns ds := ⟨h.ln, h.ld, fun i v x d a b c => k v x d (h.at_ i v x d a b c)⟩
theorem AllAt.get {A : V → Str → PyData → Prop} (h : AllAt A vs ns ds) {i : Nat} (e : vs[i]? = some v) : ∃ x d, ns[i]? = some x ∧ ds[i]? = some d ∧ A v x d := by
  have lt := (List.getElem?_eq_some_iff.mp e).1
  have e1 : ns[i]? = some (ns[i]'(by rw [← h.ln]; exact lt)) := List.getElem?_eq_getElem _
  have e2 : ds[i]? = some (ds[i]'(by rw [← h.ld]; exact lt)) := List.getElem?_eq_getElem _
  exact ⟨_, _, e1, e2, h.at_ i v _ _ e e1 e2⟩
theorem AllAt.nil {A : V → Str → PyData → Prop} : AllAt A [] [] [] := ⟨rfl, rfl, fun i v x d h => by simp at h⟩
/-- how a name can be laid out -/
theorem Nm.lay (h : Nm x) : PyData.canLay0 (.str x) = true := by
  show PyData.strOk x = true
  unfold PyData.strOk
  rw [← Array.all_toList, List.all_eq_true]
  intro c hc
  have := (h.az c hc).2
  exact decide_eq_true (Nat.lt_of_le_of_lt this (by decide))
end
theorem op_catTI {X : Cx} {K : PySem.W.Frag} (h : X.K = K) : OpR X (binaryOp .Add) (rCatTI K) := fun pins s σ H x y v u Q I rx ry ⟨a, b, xs, ys, e1, e2, h1, h2, n, z, k⟩ => by
  subst h
  exact op_catT pins s σ H x y v u Q I rx ry ⟨a, b, xs, ys, e1, e2, h1, h2, n, z, fun ye => by subst ye; exact k a H (Same.refl _) (by rw [List.append_nil]; exact h1), fun ye p hp => k p _ (same_new hp) (SqT.of upd_same)⟩
end KR
/-! ### things of any make beside the box p: tuples of the written part among them, whole numbers of some sixty figures -/
namespace KR
open PySem PySem.Spec PyProof.Rows L2
inductive Dj (K : PySem.W.Frag) (p : Addr) (H : Hp) : Nat → V → PyData → Prop
  | non (n : Nat) : Dj K p H (n + 1) .non .none
  | bl (n : Nat) (b : Bool) : Dj K p H (n + 1) (.bl b) (.bool b)
  | int (n : Nat) (i : Int) (h : i.natAbs < 2 ^ 200) : Dj K p H (n + 1) (.int i) (.int i)
  | str (n : Nat) (x : Str) : Dj K p H (n + 1) (.str x) (.str x)
  | lst {n : Nat} {a : Addr} {xs : List V} {ds : List PyData} : a ≠ p → H a = some (.lst xs) → xs.length = ds.length → xs.length ≤ 100000 → (∀ (i : Nat) (x : V) (d : PyData), xs[i]? = some x → ds[i]? = some d → Dj K p H n x d) → Dj K p H (n + 1) (.ref a) (.list ds)
  | tup {n : Nat} {a : Addr} {xs : List V} {ds : List PyData} : SqT K H a xs → xs.length = ds.length → xs.length ≤ 100000 → (∀ (i : Nat) (x : V) (d : PyData), xs[i]? = some x → ds[i]? = some d → Dj K p H n x d) → Dj K p H (n + 1) (.ref a) (.tuple ds)
variable {K : PySem.W.Frag} {p : Addr} {H H' : Hp} {n m : Nat} {v : V} {d : PyData}
theorem Dj.up (h : Dj K p H n v d) : n ≤ m → Dj K p H m v d := by
  intro le
  induction h generalizing m with
  | non n => obtain ⟨k, rfl⟩ : ∃ k, m = k + 1 := ⟨m - 1, by omega⟩; exact .non k
  | bl n b => obtain ⟨k, rfl⟩ : ∃ k, m = k + 1 := ⟨m - 1, by omega⟩; exact .bl k b
  | int n i h => obtain ⟨k, rfl⟩ : ∃ k, m = k + 1 := ⟨m - 1, by omega⟩; exact .int k i h
  | str n x => obtain ⟨k, rfl⟩ : ∃ k, m = k + 1 := ⟨m - 1, by omega⟩; exact .str k x
  | lst h0 h1 h2 h3 _ ih => obtain ⟨k, rfl⟩ : ∃ k, m = k + 1 := ⟨m - 1, by omega⟩; exact .lst h0 h1 h2 h3 fun i x d a b => ih i x d a b (by omega)
  | tup h1 h2 h3 _ ih => obtain ⟨k, rfl⟩ : ∃ k, m = k + 1 := ⟨m - 1, by omega⟩; exact .tup h1 h2 h3 fun i x d a b => ih i x d a b (by omega)
theorem Dj.kinds (h : Dj K p H n v d) : ∃ t, Kinds K H v d t := by
  cases h with
  | non => exact ⟨"NoneType", .base .non, by decide +kernel, by decide +kernel, by decide +kernel, by decide +kernel, by decide +kernel⟩
  | bl _ b => exact ⟨"bool", .base (.bl b), by show _ = some false; decide +kernel, by show _ = some false; decide +kernel, by show _ = some true; decide +kernel, by show _ = some true; decide +kernel, by show _ = some false; decide +kernel⟩
  | int _ i => exact ⟨"int", .base (.int i), by show _ = some false; decide +kernel, by show _ = some false; decide +kernel, by show _ = some true; decide +kernel, by show _ = some false; decide +kernel, by show _ = some false; decide +kernel⟩
  | str _ x => exact ⟨"str", .base (.str x), by show _ = some false; decide +kernel, by show _ = some false; decide +kernel, by show _ = some false; decide +kernel, by show _ = some false; decide +kernel, by show _ = some true; decide +kernel⟩
  | lst _ a1 => exact ⟨"list", .base (.lst a1), by show _ = some false; decide +kernel, by show _ = some true; decide +kernel, by show _ = some false; decide +kernel, by show _ = some false; decide +kernel, by show _ = some false; decide +kernel⟩
  | tup a1 => exact ⟨"tuple", sqT_ty a1, by show _ = some true; decide +kernel, by show _ = some false; decide +kernel, by show _ = some false; decide +kernel, by show _ = some false; decide +kernel, by show _ = some false; decide +kernel⟩
/-- each of a row is such a thing -/
def AllDj (K : PySem.W.Frag) (p : Addr) (H : Hp) (n : Nat) (xs : List V) : Prop := ∀ x ∈ xs, ∃ d, Dj K p H n x d
theorem AllDj.nil : AllDj K p H n [] := fun x hx => absurd hx List.not_mem_nil
theorem AllDj.cons {x : V} {xs : List V} (h : ∃ d, Dj K p H n x d) (t : AllDj K p H n xs) : AllDj K p H n (x :: xs) := fun y hy => by
  rcases List.mem_cons.mp hy with e | e
  · rw [e]
    exact h
  · exact t y e
theorem AllDj.one {x : V} (h : ∃ d, Dj K p H n x d) (le : n ≤ m := by omega) : AllDj K p H m [x] := .cons (h.elim fun d q => ⟨d, q.up le⟩) .nil
theorem dj_num (h : Dj K p H n v d) (k : isNumD d = true) : ∃ i, d = .int i ∧ v = .int i ∧ i.natAbs < 2 ^ 200 := by
  cases h with
  | int _ i h => exact ⟨i, rfl, rfl, h⟩
  | non => cases k
  | bl => cases k
  | str => cases k
  | lst => cases k
  | tup => cases k
/-- a fraction not below 0; a juice -/
def isFracN : PyData → Bool
  | .tuple [.int t, .int b] => isFracD (.tuple [.int t, .int b]) && decide (0 ≤ t)
  | _ => false
def isJuiceD : PyData → Bool
  | .tuple ds => decide (ds.length = 2) && ds.all isFracN
  | _ => false
end KR
/-! ### how many of a list of truths are so; a text's signs in a comprehension -/
namespace KR
open PySem PySem.Spec PyProof.Rows L2
theorem reads_bools {h : Heap} : ∀ {bs : List Bool} {us : List Value}, Vals (bs.map V.bl) us → ∃ as, ReadsAll h us (bs.map PyData.bool) as
  | [], us, r => by
    cases r
    exact ⟨_, .nil⟩
  | b :: bs, us, r => by
    cases r with
    | cons r1 r2 =>
      obtain ⟨as, q⟩ := reads_bools (h := h) r2
      cases r1
      exact ⟨_, .cons (.bool b) q⟩
theorem bools_has : ∀ bs : List Bool, (bs.map PyData.bool).all Shape.bool.has = true
  | [] => rfl
  | b :: bs => by
    rw [List.map_cons, List.all_cons, bools_has bs]
    rfl
def rCntB (K : PySem.W.Frag) : V → List V → Hp → VK → Prop := fun x xs H Q => ∃ (p : Addr) (bs : List Bool) (k : Bool), x = .ref p ∧ xs = [.bl k] ∧ SqL K H p (bs.map V.bl) ∧ Q (.int (countIn (.bool k) (bs.map PyData.bool))) H
theorem mt_cntB {X : Cx} {K : PySem.W.Frag} (hK : X.K = K) : MtR X "list.count" (rCntB K) := by
  subst hK
  intro pins s σ H x xs v us Q I rx rxs ask
  obtain ⟨p, bs, k, rfl, rfl, hs, q⟩ := ask
  cases rx
  obtain ⟨u, rfl, ru⟩ := rxs.one
  cases ru
  obtain ⟨its, rv, pl, hlen⟩ := I.list hs
  obtain ⟨as, rd⟩ := reads_bools (h := s.heap) rv
  exact count_list_bools pl.isList rd (bools_has bs) ⟨.int _, H, I.tok _, ⟨_, rfl⟩, q⟩
end KR
/-! ### a caught exception that is kept behind its suite -/
namespace KR
open PySem PySem.Spec PyProof.Rows L2
/-- an exception that was caught, at a: its class, its own dict -/
def ExK (cls : Value) (d : Option Addr) (a : Addr) : HO := .ext fun g => ∃ (ob : Obj) (fs : Array Value), g.get? a = some ob ∧ Zc cls d ob ∧ ob.data = .fields fs
theorem exK_ok {P : Program} {w : World} {H : Hp} {g : Heap} {a : Addr} {cls : Value} {d : Option Addr} {ob : Obj} {fs : Array Value} (e : g.get? a = some ob) (z : Zc cls d ob) (k : ob.data = .fields fs) : ObjOk P w H g a (ExK cls d a) :=
  ⟨⟨ob, fs, e, z, k⟩, ⟨ob, e⟩, fun _ _ ⟨o, v, q, r⟩ m => ⟨o, v, m o q, r⟩⟩
/-- on with the object told -/
def wKeep (K : PySem.W.Frag) (c : Value) (i : Nat) (ts : Addr → Value → Option Addr → TS) (Wo : WX) (D : Ends) : WX := fun cls d σ H =>
  ∃ hit, PySem.W.exmOne K cls c = some hit ∧
    (hit = true → ∀ a, H a = none → ts a cls d { D with nx := fun τ G => D.nx (τ.set i none) (upd G a (ExK cls d a)), bk := fun τ G => D.bk (τ.set i none) G, ct := fun τ G => D.ct (τ.set i none) G } (σ.set i (some (.ref a))) H) ∧
    (hit = false → Wo cls d σ H)
section
variable {X : Cx} {pins : List (Addr × Obj)} {σ : L2.St} {H : Hp} {s : Shared}
/-- an object that nobody tracks, new since the entry, is tracked from now on -/
theorem Inv.track {a : Addr} {o : HO} (I : Inv X pins σ H s) (na : H a = none) (old : a ∈ X.ex ∨ X.s_0.heap.get? a = none) (nL : a ≠ X.env.locals) (nC : ∀ z c, X.env.cells.lookup z = some c → c ≠ a)
    (nP : ∀ p ∈ X.pn ++ pins, p.1 ≠ a) (new : ObjOk X.prog X.w (upd H a o) s.heap a o) : Inv X pins σ (upd H a o) s := by
  refine ⟨I.ok, I.os, I.bare, ⟨I.base.keep, I.base.slot, ?_, I.base.there, ?_, ?_, ?_⟩, I.loc, I.cell, ?_, ?_, ?_, ?_, I.len⟩
  · intro b ob e1 e2 e3
    have ne : b ≠ a := fun z => by
      rw [z] at e1 e3
      rcases old with q | q
      · exact e3 q
      · rw [q] at e1
        cases e1
    rw [upd_ne ne]
    exact I.base.free b ob e1 e2 e3
  · intro b xs e
    have e' := I.base.tups b xs e
    rw [upd_ne (ne_of_none e' na)]
    exact e'
  · intro b ob u e
    have e' := I.base.frzs b ob u e
    rw [upd_ne (ne_of_none e' na)]
    exact e'
  · intro b ps e
    obtain ⟨more, e'⟩ := I.base.tbls b ps e
    refine ⟨more, ?_⟩
    rw [upd_ne (ne_of_none e' na)]
    exact e'
  · rw [upd_ne (Ne.symm nL)]
    exact I.free
  · intro z c e
    rw [upd_ne (nC z c e)]
    exact I.freeC z c e
  · intro p hp
    obtain ⟨h1, h2, h3, h4, h5⟩ := I.pin p hp
    refine ⟨h1, ?_, h3, h4, h5⟩
    rw [upd_ne (nP p hp)]
    exact h2
  · intro b u e
    by_cases z : b = a
    · subst z
      rw [upd_same] at e
      cases e
      exact new
    · rw [upd_ne z] at e
      refine (I.hok b u e).stay (fun _ _ _ g => g) (fun c g => ?_) fun c xs g => ?_
      · rw [upd_ne (ne_of_none g na)]
        exact g
      · rw [upd_ne (ne_of_none g na)]
        exact g
end
section
variable {X : Cx} {x n : Str} {c : Value} {i : Nat} {body suite : List Stmt} {b0 : Stmt} {p1 p2 p3 : Pos} {tb : WX → TS} {ts : Addr → Value → Option Addr → TS} {Wo : WX}
/-- try .. except x as n: what the suite keeps of the exception may be asked behind it -/
theorem ps_try_keep (stk : X.stack = X.env :: X.outer) (frm : X.env.frame = some X.env.locals) (nd : X.N.Nodup) (sl : X.N[i]? = some n) (kn : X.env.kindOf n = some .local) (nm : Names X x c) (out : Takes X Wo)
    (hbody : ∀ (W : WX) (pn : List (Addr × Obj)) (xe : Value → Shared → Prop), Takes (X.tr pn xe) W → PassesOwn (model X.prog X.w) X.A X.env xe → PSs (X.tr pn xe) body (tb W))
    (hsuite : ∀ (a : Addr) (ob : Obj) (cls : Value) (d : Option Addr) (pn : List (Addr × Obj)), Zc cls d ob → (∃ fs, ob.data = .fields fs) → PSs (X.suite a ((a, ob) :: pn)) (b0 :: suite) (ts a cls d)) :
    PS X (.Try body [.ExceptHandler (some (.Name x p1)) (some n) (b0 :: suite) p2] [] [] p3) (fun D σ H => tb (wKeep X.K c i ts Wo D) D σ H) := by
  constructor
  intro pins s σ H D I ask
  have fine := I.ok
  have frames : X.A.frames = some (X.env :: X.outer) := by rw [fine.frames, stk]
  have place : Loc X.env.scope n := .inl kn
  refine wpAny_Try_except ?_
  refine wpAny_mono ((hbody (wKeep X.K c i ts Wo D) (X.pn ++ pins) (fun e t1 => wpAny (model X.prog X.w) X.A (noteFrame e X.env) (fun _ t2 => wpAny (model X.prog X.w) X.A (setFlight e none) (fun _ t3 =>
    wpAny (model X.prog X.w) X.A (handleBy e X.env [.ExceptHandler (some (.Name x p1)) (some n) (b0 :: suite) p2]) (SP X pins D) X.xe t3) X.xe t2) X.xe t1) (fun v t0 air => ?caught) PassesOwn.looking).run [] s σ H D (I.toTry _) ask) (fun f s1 sp => ?done) (fun _ _ h => h)
  case done =>
    cases f with
    | next =>
      obtain ⟨τ, G, J, more⟩ := sp
      exact wpAny_execs_nil ⟨τ, G, J.ofTry fine, more⟩
    | brk =>
      obtain ⟨τ, G, J, more⟩ := sp
      exact ⟨τ, G, J.ofTry fine, more⟩
    | cont =>
      obtain ⟨τ, G, J, more⟩ := sp
      exact ⟨τ, G, J.ofTry fine, more⟩
    | ret u =>
      obtain ⟨v, τ, G, J, rel, more⟩ := sp
      exact ⟨v, τ, G, J.ofTry fine, rel, more⟩
  case caught =>
    obtain ⟨a, B, sB, ps, τ, G, cls, d, rfl, J0, ground, up0, sky, na, os, bare, hit, eHit, yes, no⟩ := air
    have J : Inv X pins τ G sB := J0.ofTry fine
    have sky1 : Sky B (X.env :: X.outer) a (Zc cls d) X.env.locals t0.heap := by rw [← stk]; exact sky
    show wpAny (model X.prog X.w) X.A (noteFrame (.ref a) X.env) _ _ _
    refine Sky.land Zc.steady frames frm sky1 fun g1 fly1 up1 => ?_
    obtain ⟨ob1, fs1, at_1, z1, d1⟩ := fly1.there
    have noFrame : a ∉ frs (X.env :: X.outer) := fun m => by
      obtain ⟨_, o2, e2, bad⟩ := fly1.2.2.1.mem m
      rw [at_1] at e2
      cases e2
      exact bad _ d1
    have nL : a ≠ X.env.locals := fun z => noFrame (List.mem_filterMap.mpr ⟨X.env, List.mem_cons_self, by rw [frm, z]⟩)
    have nF : a ∉ X.fs := fun m => by
      obtain ⟨e, he, q⟩ := List.mem_filterMap.mp m
      exact noFrame (List.mem_filterMap.mpr ⟨e, List.mem_cons_of_mem _ he, q⟩)
    -- the object is new since the entry
    have fresh : sB.heap.get? a = none := by
      cases e : sB.heap.get? a with
      | none => rfl
      | some o =>
        have inB := ground a o e (by rw [stk]; exact noFrame)
        rw [fly1.2.1] at inB
        cases inB
    have old : a ∈ X.ex ∨ X.s_0.heap.get? a = none := by
      by_cases ex : a ∈ X.ex
      · exact .inl ex
      · right
        cases e : X.s_0.heap.get? a with
        | none => rfl
        | some o =>
          obtain ⟨o2, e2⟩ := J.base.there a o e ex
          rw [fresh] at e2
          cases e2
    have J1 : Inv X pins τ G { t0 with heap := g1 } := J.landed ground fly1.1 (up0.trans up1) os bare
    have inner := J1.suite at_1 d1 na nL nF
    refine wpAny_handleBy_cons (codeAny_handlers_test ?_) (by intro q; cases q)
    have kind : PySem.W.Looks (model X.prog X.w) g1 (typeOf (.ref a)) cls := fun _ _ _ _ k q => wpAny_typeOf_ref (k _ _ at_1) (by rw [z1.1]; exact q)
    have match_ := PySem.W.exm_one (M := model X.prog X.w) J1.kIn kind eHit
    have named : ∀ {R : Value → Shared → Prop} {E : Value → Shared → Prop}, R c { t0 with heap := g1 } → wpAny (model X.prog X.w) (X.A.mark (some (.ref a))) (eval (.Name x p1) X.env) R E { t0 with heap := g1 } := fun {R E} r => by
      obtain ⟨u1, u2, u3 | ⟨u3, u4, u5⟩⟩ := nm
      · exact ld_glob (X := X.suite a ((a, ob1) :: (X.pn ++ pins))) inner u1 u3 r u2
      · exact ld_blt (X := X.suite a ((a, ob1) :: (X.pn ++ pins))) inner u1 u3 u4 r u5 u2
    refine named (match_.here ?_)
    have noPin : ∀ p ∈ X.pn ++ pins, p.1 ≠ a := fun p hp z => by
      have q := (J.pin p hp).1
      rw [z, fresh] at q
      cases q
    have noCell : ∀ z c, X.env.cells.lookup z = some c → c ≠ a := fun z c e q => by
      obtain ⟨v, o, e1, _⟩ := J.cell z c e
      rw [q, fresh] at e1
      cases e1
    cases hit with
    | true =>
      refine codeAny_handlers_suite_as ?_
      refine HandSPX.lands_againZ fly1 fun g2 fly2 up2 => ?_
      obtain ⟨ob2, fs2, at_2, z2, d2⟩ := fly2.there
      have J2 : Inv X pins τ G { t0 with heap := g2 } := J.landed ground fly2.1 ((up0.trans up1).trans up2) os bare
      have within := J2.suite at_2 d2 na nL nF
      refine store_ok (X := X.suite a ((a, ob2) :: (X.pn ++ pins))) (v := .ref a) within nd sl place rfl (fun t3 J3 => ?_) (.inr kn)
      refine wpAny_mono ((hsuite a ob2 cls d (X.pn ++ pins) z2 ⟨_, d2⟩).run [] t3 _ G _ J3 (yes rfl a na)) (fun f t4 sp => ?_) (fun _ _ z => False.elim z)
      have leave : ∀ {τ4 : L2.St} {G4 : Hp} {R : Shared → Prop}, Inv (X.suite a ((a, ob2) :: (X.pn ++ pins))) [] τ4 G4 t4 → (∀ t5, Inv (X.suite a ((a, ob2) :: (X.pn ++ pins))) [] (τ4.set i none) G4 t5 → R t5) →
          wpAny (model X.prog X.w) X.A (do bindName X.env n .none; unbindBehindTheSuite X.env n p2) (fun _ t5 => R t5) X.xe t4 := fun {τ4 G4 R} J4 r =>
        gone_ok (X := X.suite a ((a, ob2) :: (X.pn ++ pins))) J4 nd sl kn r
      cases f with
      | next =>
        obtain ⟨τ4, G4, J4, more⟩ := sp
        refine leave J4 fun t5 J5 => ?_
        obtain ⟨k1, k2, _⟩ := J5.pin (a, ob2) (List.mem_append_left _ List.mem_cons_self)
        have J6 := J5.unsuite fine
        exact ⟨_, _, Inv.track J6 k2 old nL noCell noPin (exK_ok k1 z2 d2), more⟩
      | brk =>
        obtain ⟨τ4, G4, J4, more⟩ := sp
        exact leave J4 fun t5 J5 => ⟨_, _, J5.unsuite fine, more⟩
      | cont =>
        obtain ⟨τ4, G4, J4, more⟩ := sp
        exact leave J4 fun t5 J5 => ⟨_, _, J5.unsuite fine, more⟩
      | ret u =>
        obtain ⟨v, τ4, G4, J4, rel, more⟩ := sp
        exact leave J4 fun t5 J5 => ⟨_, _, _, J5.unsuite fine, rel, more⟩
    | false =>
      show wpAny _ X.A (handleBy (.ref a) X.env []) _ _ _
      refine wpAny_handleBy_nil ?_
      obtain ⟨_, _, _, o3, v3, T3, l3, w3, in3, z3, data3, slot3, _⟩ := id fly1
      unfold PySem.passOn
      refine wpAny_bind (wpAny_field in3 data3 slot3 ?_)
      have ref3 : ¬ ((Value.ref T3 == Value.none) = true) := by simp
      rw [if_neg ref3]
      have throw3 : wpAny (model X.prog X.w) X.A (setFlight (.ref a) X.env.frame) (fun _ t4 => wpAny (model X.prog X.w) X.A (throw (.ref a) : Sem Flow) (SP X pins D) X.xe t4) X.xe { t0 with heap := g1 } := by
        rw [frm]
        refine HandSPX.setFlight_upZ fly1 fun g2 held2 up2 => wpAny_throw (out _ _ ?_)
        have sky2 : Sky B X.stack a (Zc cls d) X.env.locals g2 := .inr (.inr (by rw [stk]; exact held2))
        exact ⟨a, B, sB, pins, τ, G, cls, d, rfl, J, ground, (up0.trans up1).trans up2, sky2, na, os, bare, no rfl⟩
      first
        | exact wpAny_bind throw3
        | exact wpAny_bind (wpAny_pure (wpAny_bind throw3))
end
/-- what the written part says of a class whose objects are caught -/
structure ExcFacts (K : PySem.W.Frag) (C : Addr) : Prop where
  cl : (PySem.W.clsIn K C).isSome = true
  ga : PySem.W.findIn K (.ref C) "__getattribute__" = some (some (.builtin "BaseException.__getattribute__"))
  gg : PySem.W.findIn K (.ref C) "__getattr__" = some none
  sub : PySem.W.subIn K (.ref C) (.type "BaseException") = some true
  cls : PySem.W.findIn K (.ref C) "__class__" = some (some (.builtin "object.__class__"))
  get : PySem.W.specialIn K (.builtin "object.__class__") "__get__" = some (some (.builtin "getset_descriptor.__get__"))
  tak : PySem.W.takesIn K (.builtin "object.__class__") = some true
  obj : PySem.W.mroIn K C (.type "object") = some true
  dic : PySem.W.hasDictIn K C = true
  fld : PySem.W.findIn K (.ref C) "what" = some none
/-- which classes an exception's class stands under, by what the written part says of both -/
theorem kit_own {K : PySem.W.Frag} {C D : Addr} {b : Bool} (h1 : PySem.W.isClsIn K D = true) (h2 : PySem.W.typeIn K (.ref D) = some (.type "type")) (h3 : PySem.W.subIn K (.ref C) (.ref D) = some b) (h4 : PySem.W.subIn K (.ref C) (.ref C) = some true) : PySem.W.kitOne K (.ref C) (.ref D) = some b := by
  unfold PySem.W.kitOne
  by_cases e : (Value.ref C == Value.ref D) = true
  · rw [if_pos e]
    have e2 : Value.ref C = Value.ref D := eq_of_beq e
    rw [← e2, h4] at h3
    exact h3
  · rw [if_neg e]
    show (if ((PySem.W.clsIn K D).isSome && PySem.W.typeIn K (.ref D) == some (.type "type")) = true then PySem.W.subIn K (.ref C) (.ref D) else none) = some b
    have h1' : (PySem.W.clsIn K D).isSome = true := h1
    have e1 : ((PySem.W.clsIn K D).isSome && PySem.W.typeIn K (.ref D) == some (.type "type")) = true := by rw [h1', h2] <;> rfl
    rw [if_pos e1]
    exact h3
theorem kit_ve {K : PySem.W.Frag} {C : Addr} (h : PySem.W.subIn K (.ref C) (.type "ValueError") = some true) : PySem.W.kitOne K (.ref C) (.type "ValueError") = some true := by
  unfold PySem.W.kitOne
  rw [if_neg (by intro z; exact absurd (eq_of_beq z) (by intro y; cases y))]
  show (if PySem.W.kitMeta "ValueError" = true then PySem.W.subIn K (.ref C) (.type "ValueError") else none) = some true
  rw [if_pos (by decide +kernel)]
  exact h
theorem exm_own {K : PySem.W.Frag} {C D : Addr} {b : Bool} (h0 : PySem.W.subIn K (.ref D) (.type "BaseException") = some true) (h1 : PySem.W.isClsIn K D = true) (h2 : PySem.W.typeIn K (.ref D) = some (.type "type")) (h3 : PySem.W.subIn K (.ref C) (.ref D) = some b) : PySem.W.exmOne K (.ref C) (.ref D) = some b := by
  unfold PySem.W.exmOne
  have e0 : (PySem.W.subIn K (.ref D) (.type "BaseException") == some true) = true := by rw [h0] <;> rfl
  rw [if_pos e0]
  show (if ((PySem.W.clsIn K D).isSome && PySem.W.typeIn K (.ref D) == some (.type "type")) = true then PySem.W.subIn K (.ref C) (.ref D) else none) = some b
  have h1' : (PySem.W.clsIn K D).isSome = true := h1
  have e1 : ((PySem.W.clsIn K D).isSome && PySem.W.typeIn K (.ref D) == some (.type "type")) = true := by rw [h1', h2] <;> rfl
  rw [if_pos e1]
  exact h3
/-- what an exception's own dict has: its class's name, what it was made with -/
def wh (nm : Str) (v : V) : List (Str × V) := [(("word" : Str), .str nm), (("what" : Str), v)]
/-- a caught one at a, its dict at d: the field what is v -/
structure Kept (K : PySem.W.Frag) (H : Hp) (a C d : Addr) (v : V) : Prop where
  F : ExcFacts K C
  ob : H a = some (ExK (.ref C) (some d) a)
  di : ∃ nm : Str, H d = some (.xd (wh nm v))
theorem Kept.same {K : PySem.W.Frag} {H G : Hp} {a C d : Addr} {v : V} (k : Kept K H a C d v) (s : Same H G) : Kept K G a C d v := ⟨k.F, s _ _ k.ob, k.di.imp fun _ e => s _ _ e⟩
section
variable {X : Cx} {pins : List (Addr × Obj)} {σ : L2.St} {H : Hp} {s : Shared}
theorem Kept.inst {a C d : Addr} {v : V} (k : Kept X.K H a C d v) (I : Inv X pins σ H s) : ∃ (nm : Str) (ob od : Obj) (m : Str → Option Value), PySem.W.InstAt s.heap a ob C (some od) ∧ s.heap.Ns1 d m ∧ s.heap.get? d = some od ∧ (∀ f, RelO (List.lookup f (wh nm v)) (m f)) := by
  obtain ⟨nm, kdi⟩ := k.di
  obtain ⟨⟨ob, fs, e, z, da⟩, _⟩ := (show ObjOk X.prog X.w H s.heap a (ExK (.ref C) (some d) a) from I.hok a _ k.ob)
  obtain ⟨m, ns, r⟩ := (show ObjOk X.prog X.w H s.heap d (.xd (wh nm v)) from I.hok d _ kdi)
  obtain ⟨od, ho, _⟩ := lookIn_ns ns
  exact ⟨nm, ob, od, m, ⟨e, z.1, by unfold PySem.W.notCls; rw [da] <;> rfl, by rw [z.2]; exact ho⟩, ns, ho, r⟩
end
/-- isinstance of a kept one: a class, a tuple of classes -/
def rIsX (K : PySem.W.Frag) : List V → Hp → VK → Prop := fun xs H Q => ∃ (a C d : Addr) (v k : V) (u : Value) (b : Bool), xs = [.ref a, k] ∧ Kept K H a C d v ∧ ClsV k u ∧ PySem.W.kitOne K (.ref C) u = some b ∧ Q (.bl b) H
def rIsXT (K : PySem.W.Frag) : List V → Hp → VK → Prop := fun xs H Q => ∃ (a C d tp : Addr) (v : V) (ks : List V) (us : List Value) (b : Bool), xs = [.ref a, .ref tp] ∧ Kept K H a C d v ∧ H tp = some (.tup ks) ∧ Paired ClsV ks us ∧ PySem.W.kitAny K (.ref C) us = some b ∧ Q (.bl b) H
section
variable {X : Cx} {K : PySem.W.Frag}
theorem isX (hK : X.K = K) : CallR X (.builtin "isinstance") (rIsX K) := by
  subst hK
  intro pins s σ H xs us Q I rel ⟨a, C, d, v, k, u, b, e, kp, kc, ko, q⟩
  subst e
  obtain ⟨w1, w2, e2, r1, r2⟩ := vals2 rel
  subst e2
  obtain rfl : w1 = Value.ref a := r1
  obtain rfl := kc.eq r2
  obtain ⟨nm, ob, od, m, inst, _⟩ := kp.inst I
  have kit := PySem.W.kitx_exc (x := a) (ox := ob) (od := some od) kp.F.cl kp.F.ga kp.F.gg kp.F.sub kp.F.cls kp.F.get kp.F.tak kp.F.obj
  exact PySem.W.kia_one kit I.kIn inst ko (fun z => nomatch z) fun tk => ⟨.bl b, H, I.tok tk, rfl, q⟩
theorem isXT (hK : X.K = K) : CallR X (.builtin "isinstance") (rIsXT K) := by
  subst hK
  intro pins s σ H xs us Q I rel ⟨a, C, d, tp, v, ks, cs, b, e, kp, ht, kc, ko, q⟩
  subst e
  obtain ⟨w1, w2, e2, r1, r2⟩ := vals2 rel
  subst e2
  obtain rfl : w1 = Value.ref a := r1
  obtain rfl : w2 = Value.ref tp := r2
  obtain ⟨nm, ob, od, m, inst, _⟩ := kp.inst I
  have kit := PySem.W.kitx_exc (x := a) (ox := ob) (od := some od) kp.F.cl kp.F.ga kp.F.gg kp.F.sub kp.F.cls kp.F.get kp.F.tak kp.F.obj
  obtain ⟨_, items, rv, o, at_o, c_o, len_o, data_o⟩ := (show ObjOk X.prog X.w H s.heap tp (.tup ks) from I.hok tp _ ht)
  obtain rfl := ClsV.all kc rv
  obtain ⟨oc, odict, odata, oslots⟩ := o
  simp only at c_o data_o
  subst c_o data_o
  exact PySem.W.kia_tup kit I.kIn inst at_o ko (fun z => nomatch z) fun tk => ⟨.bl b, H, I.tok tk, rfl, q⟩
/-- caught.what -/
def tWhat (K : PySem.W.Frag) (te : TE) : TE := fun σ H Q => te σ H fun x G => ∃ (a C d : Addr) (v : V), x = .ref a ∧ Kept K G a C d v ∧ Q v G
theorem pe_what {e : Expr} {te : TE} {pos : Pos} (hK : X.K = K) (he : PE X e te) (hb : attributeBase e "what" X.env (eval e X.env) = eval e X.env := by rfl) : PE X (.Attribute e "what" pos) (tWhat K te) := by
  subst hK
  constructor
  intro pins s σ H Q I ask
  refine attr_of hb (thn (he.run pins s σ H _ I ask) fun u t1 got => ?_)
  obtain ⟨x, G, J, rel, a, C, d, v, e1, kp, q⟩ := got
  subst e1
  obtain rfl : u = Value.ref a := rel
  obtain ⟨nm, ob, od, m, inst, ns, at_d, fs⟩ := kp.inst J
  obtain ⟨od2, at_d2, look⟩ := lookIn_ns ns
  rw [at_d] at at_d2
  obtain rfl := Option.some.inj at_d2
  have l1 : List.lookup ("what" : Str) (wh nm v) = some v := rfl
  obtain ⟨w, hw, rw_⟩ := RelO.some_of (v := v) (o := m "what") (by rw [← l1]; exact fs "what")
  have found := PySem.W.findObj_own (K := X.K) (C := C) (od := od) kp.F.dic kp.F.fld rfl (by rw [look, hw])
  exact HandSPX.exc_get J.kIn inst kp.F.ga kp.F.gg kp.F.sub found (handed_of rw_) ⟨v, G, J.tok _, rw_, q⟩
end
end KR
/-! ### the name of its class, which an exception keeps: self.word = self.__class__.__name__ -/
namespace PySem.W
open PySem PySem.Calls PySem.Spec PyProof.Rows Builtin Builtin.Getset_descriptor
section
variable {pg : Program} {wd : World} {Ar : Around} {Ex : Value → Shared → Prop} {sh : Shared} {Fg : Frag} {Rr : Result → Shared → Prop} {Cl z : Addr} {oz : Obj} {oy : Option Obj}
theorem own_dga (dv tv : Value) (b : Addr) : descrGetArgs ⟨[dv, .ref b, tv], []⟩ = pure (dv, some (.ref b), given tv) := by kernel_rfl
theorem own_name_get {tv : Value} {oc : Obj} {nm : Str} {tk : Tok} (at_C : sh.heap.get? Cl = some oc) (ty : oc.cls = .type "type") (sl : (oc.slots[2]?).join = some (.str nm tk)) (want : Rr (.ok (.ret (.str nm tk))) sh) :
    codeAny (model pg wd) Ar (.call (.builtin "getset_descriptor.__get__") ⟨[.builtin "type.__name__", .ref Cl, tv], []⟩) Rr sh := by
  obtain ⟨hh, g, dr, t, os⟩ := sh
  have K0 : Looks (model pg wd) hh (typeOf (.ref Cl)) (.type "type") := fun _ _ _ _ keep q => wpAny_typeOf_ref (keep _ _ at_C) (by rw [ty]; exact q)
  have K1 : Looks (model pg wd) hh (isSubtype (.type "type") (.type "type")) true := .of_pure (by rw [isSubtype_type] <;> kernel_rfl)
  refine codeAny_call_builtin KF.slot_gs.plain KF.entry_gs <| KF.slot_gs.check _ _ _ _ _ _ _ _ ktyn_type (KF.args_gs _ _ _) ?_
  unfold Builtin.«getset_descriptor.__get__» descrGet; rw [own_dga]; refine wpAny_bind <| wpAny_pure ?_
  unfold descrGetter descrCheckInstance descrNameAndClass isInstance; simp only [ktyn_owner]
  repeat lk
  refine ⟨Code.quiet_builtin _ (by decide +kernel), codeAny_builtin ktyn_entry ?_⟩
  unfold Builtin.«type.__name__»; dsimp only
  unfold keptObject slotAt; dsimp only
  refine wpAny_bind (wpAny_bind (wpAny_loadPart_at at_C (wpAny_pure ?_)))
  rw [sl]; dsimp only
  first
    | exact wpAny_pure want
    | exact wpAny_bind (wpAny_pure want)
    | exact wpAny_bind (wpAny_pure (wpAny_pure want))
theorem own_name {expr : Bool} {Q : Value → Shared → Prop} {oc : Obj} {nm : Str} {tk : Tok} (X : Fg.In sh.heap) (rd : readsIn Fg Cl (.type "type") = true) (fc : findCls Fg (.ref Cl) (.type "type") "__name__" = some (.get (.builtin "getset_descriptor.__get__") (.builtin "type.__name__") (.ref Cl) (.type "type")))
    (lk : Fg.lookup Cl = some oc) (ty : oc.cls = .type "type") (sl : (oc.slots[2]?).join = some (.str nm tk)) (want : ∀ u, Q (.str nm tk) { sh with toks := u }) : wpAny (model pg wd) Ar (getAttr (.ref Cl) "__name__" expr) Q Ex sh := by
  refine cls_read X rd fc ?_
  show wpAny _ _ (holding [Value.builtin "type.__name__"] (call (.builtin "getset_descriptor.__get__") [.builtin "type.__name__", .ref Cl, .type "type"]) >>= ret) _ _ _
  refine wpAny_bind <| wpAny_holding <| wpAny_call <| own_name_get (sh := { sh with toks := sh.toks + 1 }) (X _ _ lk) ty sl ?_
  exact wpAny_pure (handed_on rfl (want _))
theorem own_class {expr : Bool} {Q : Value → Shared → Prop} (X : Fg.In sh.heap) (I : InstAt sh.heap z oz Cl oy) (c1 : findIn Fg (.ref Cl) "__getattribute__" = some (some (.builtin "BaseException.__getattribute__"))) (c2 : findIn Fg (.ref Cl) "__getattr__" = some none)
    (c3 : subIn Fg (.ref Cl) (.type "BaseException") = some true) (c4 : (clsIn Fg Cl).isSome = true) (c5 : findIn Fg (.ref Cl) "__class__" = some (some (.builtin "object.__class__"))) (c6 : specialIn Fg (.builtin "object.__class__") "__get__" = some (some (.builtin "getset_descriptor.__get__")))
    (c7 : takesIn Fg (.builtin "object.__class__") = some true) (c8 : mroIn Fg Cl (.type "object") = some true) (want : ∀ u, Q (.ref Cl) { sh with toks := u }) : wpAny (model pg wd) Ar (getAttr (.ref z) "__class__" expr) Q Ex sh := by
  have fo : findObj Fg Cl oy "__class__" = some (.bind (.builtin "getset_descriptor.__get__") (.builtin "object.__class__")) := by
    cases oy with
    | none => exact findObj_dataN c4 c5 c6 c7
    | some ob => exact findObj_data c4 c5 c6 c7
  obtain ⟨hh, g, dr, t, os⟩ := sh
  have K0 := I.type (M := model pg wd)
  have K1 := looks_findIn (M := model pg wd) X c1
  have K2 := looks_findIn (M := model pg wd) X c2
  have K3 := looks_find (M := model pg wd) X I fo
  have below : Looks (model pg wd) hh (isInstance (.ref z) (.type "BaseException")) true := K0.andThen (looks_subIn X c3)
  have n0 : (expr && onTheHeap (Value.builtin "BaseException.__getattribute__")) = false := by cases expr <;> rfl
  have n1 : (Value.builtin "BaseException.__getattribute__" == Value.builtin "object.__getattribute__") = false := by decide +kernel
  have n2 : (onTheHeap (Value.ref Cl) && Value.builtin "BaseException.__getattribute__" == Value.builtin "object.__getattribute__") = false := by rw [n1] <;> rfl
  unfold getAttr getAttrBy
  refine wpAny_bind <| wpAny_mkText <| wpAny_holding <| wpAny_bind <| K0.at <| wpAny_bind <| K1.at ?_
  show wpAny _ _ (ite ((onTheHeap (Value.ref Cl) && Value.builtin "BaseException.__getattribute__" == Value.builtin "object.__getattribute__") = true) _ _) _ _ _
  rw [n2, if_neg Bool.false_ne_true]; unfold getAttrByItsOwn hookBefore; refine wpAny_bind ?_
  rw [if_pos (show onTheHeap (Value.ref Cl) = true from rfl)]; refine K2.at ?_; refine wpAny_bind <| wpAny_attempt <| wpAny_holding ?_
  unfold callGetattribute; rw [n0, if_neg Bool.false_ne_true]; unfold boundAndCalled; rw [PySem.F.excAttr_ValueError.ga.bind (.ref z)]; refine wpAny_bind <| wpAny_pure ?_
  show wpAny _ _ (call (.builtin "BaseException.__getattribute__") [.ref z, .str "__class__" t]) _ _ _
  refine wpAny_call <| codeAny_call_builtin PySem.F.excAttr_ValueError.ga.plain PySem.F.entry_bexc_ga ?_
  refine @check_slot (model pg wd) _ _ ⟨hh, g, dr, t + 1, os⟩ "BaseException.__getattribute__" "BaseException" "__getattribute__" (.ref z) [.str "__class__" t] [] _ (by decide +kernel) (by decide +kernel) below (PySem.F.args_bexc_ga (.ref z) (.str "__class__" t)) ?_
  unfold Builtin.«object.__getattribute__»; refine wpAny_bind <| wpAny_of_eq (a := ((Value.ref z : Value), [Value.str "__class__" t])) (by first | rfl | (simp only [slotArgs]; rfl)) ?_
  refine wpAny_bind <| wpAny_pure <| wpAny_bind <| K0.at <| wpAny_bind <| K3.at ?_
  show wpAny _ _ (holding [Value.builtin "object.__class__"] (call (.builtin "getset_descriptor.__get__") [.builtin "object.__class__", .ref z, .ref Cl]) >>= ret) _ _ _
  refine wpAny_bind <| wpAny_holding <| wpAny_call <| class_get (s := ⟨hh, g, dr, t + 1, os⟩) (ox := oz) (od := oy) X I c8 ?_
  refine wpAny_pure ?_
  show wpAny _ _ (handedOut (.ref Cl)) _ _ _
  rw [handedOut_of (v := .ref Cl) rfl]
  first
    | exact wpAny_pure (want _)
    | exact wpAny_pure (wpAny_pure (want _))
end
end PySem.W
namespace KR
open PySem PySem.Spec PyProof.Rows L2
/-- a class whose own name, kept since it was made, is nm -/
structure NmC (K : PySem.W.Frag) (C : Addr) (nm : Str) : Prop where
  ro : ∃ (oc : Obj) (tk : Tok), K.lookup C = some oc ∧ oc.cls = .type "type" ∧ (oc.slots[2]?).join = some (.str nm tk)
  rd : PySem.W.readsIn K C (.type "type") = true
  fw : PySem.W.findIn K (.ref C) "word" = some none
  fc : PySem.W.findCls K (.ref C) (.type "type") "__name__" = some (.get (.builtin "getset_descriptor.__get__") (.builtin "type.__name__") (.ref C) (.type "type"))
/-- self.__class__.__name__ of one that is being made -/
def tCnm (K : PySem.W.Frag) (to : TE) : TE := fun σ H Q => to σ H fun x H1 => ∃ (a C d : Addr) (fs : List (Str × V)) (nm : Str), x = .ref a ∧ ExcFacts K C ∧ NmC K C nm ∧ H1 a = some (exo a C (some d)) ∧ H1 d = some (exd d fs) ∧ Q (.str nm) H1
theorem pe_cnm {X : Cx} {o : Expr} {to : TE} {p1 p2 : Pos} (ho : PE X o to) (h1 : attributeBase o "__class__" X.env (eval o X.env) = eval o X.env := by rfl)
    (h2 : attributeBase (.Attribute o "__class__" p1) "__name__" X.env (eval (.Attribute o "__class__" p1) X.env) = eval (.Attribute o "__class__" p1) X.env := by rfl) : PE X (.Attribute (.Attribute o "__class__" p1) "__name__" p2) (tCnm X.K to) := by
  refine ⟨fun pins s σ H Q I ask => ?_⟩
  refine attr_of h2 (attr_of h1 (thn (ho.run pins s σ H _ I ask) fun u s1 got => ?_))
  obtain ⟨x, H1, J, rel, a, C, d, fs, nm, e1, F, N, ha, hd, q⟩ := got
  subst e1
  obtain rfl : u = Value.ref a := rel
  obtain ⟨t1, at_a⟩ := exo_at J.hok ha
  obtain ⟨mA, ns, _⟩ := exd_at J.hok hd
  obtain ⟨od, at_d, _⟩ := lookIn_ns ns
  obtain ⟨oc, tk, lk, ty, sl⟩ := N.ro
  refine PySem.W.own_class J.kIn (oy := some od) ⟨at_a, rfl, rfl, at_d⟩ F.ga F.gg F.sub F.cl F.cls F.get F.tak F.obj fun u1 => ?_
  exact PySem.W.own_name (J.tok u1).kIn N.rd N.fc lk ty sl fun u2 => ⟨.str nm, H1, J.tok u2, ⟨tk, rfl⟩, q⟩
/-- the dict of one that is being made, told twice -/
theorem upd_twice {H : Hp} {a d : Addr} {o1 o2 o3 : HO} (ne : d ≠ a) : upd (upd (upd H d o1) a o2) d o3 = upd (upd H d o3) a o2 := by
  funext b
  by_cases e1 : b = a
  · subst e1
    rw [upd_ne (Ne.symm ne), upd_same, upd_same]
  · by_cases e2 : b = d
    · subst e2
      rw [upd_same, upd_ne e1, upd_same]
    · rw [upd_ne e2, upd_ne e1, upd_ne e2, upd_ne e1, upd_ne e2]
/-- self.what = what; self.word = self.__class__.__name__ -/
theorem init_reads {K : PySem.W.Frag} {C a : Addr} {nm : Str} {v : V} {H : Hp} {D : Ends} (O : OexC K C) (F : ExcFacts K C) (N : NmC K C nm) (ha : H a = some (exo a C none)) (q : ∀ dx, H dx = none → dx ≠ a → D.nx [some (.ref a), some v] (upd (upd H dx (exd dx (wh nm v))) a (exo a C (some dx)))) :
    tSeq (tOst K "what" (tVar 0) (tVar 1)) (tOst K "word" (tVar 0) (tCnm K (tVar 0))) D [some (.ref a), some v] H := by
  refine ⟨_, rfl, _, rfl, a, C, rfl, O, F.fld, .inl ⟨ha, fun dx h1 h2 => ?_⟩⟩
  have e1 : (upd (upd H dx (exd dx [(("what" : Str), v)])) a (exo a C (some dx))) dx = some (exd dx [(("what" : Str), v)]) := by rw [upd_ne h2, upd_same]
  refine ⟨_, rfl, a, C, dx, _, nm, rfl, F, N, upd_same, e1, _, rfl, a, C, rfl, O, N.fw, .inr ⟨dx, _, upd_same, e1, by show 1 ≤ 900; decide, ?_⟩⟩
  rw [upd_twice h2]
  exact q dx h1 h2
end KR
/-! ### an instance that is made, where its own __init__ may raise -/
namespace KR
open PySem PySem.Spec PyProof.Rows L2
theorem passX0 {X : Cx} : Passes (L2.CX X.prog X.w) X E0 := fun pins σ H s1 e s' I z => by
  obtain ⟨a, B, H', cls, d, _, _, _, _, _, _, _, q⟩ := z
  exact q.elim
section
variable {X : Cx} {CX : CXT} {n : Nat} {fI cl : Addr} {fd : FuncData} {names : List Str} {sp : Sp} {E : L2.St → XK} {x : Str} {p pos : Pos} {e : Expr} {es : List Expr} {t : TA}
/-- what is left to be shown of it: __init__ with the new instance ahead -/
def tMakeS (cl : Addr) (sp : Sp) (E : L2.St → XK) (t : TA) : TE := fun σ H Q => t σ H fun vs G => ∀ a da, G a = none → G da = none → da ≠ a → sp (.ref a :: vs) (upd (upd G da (.own a)) a (.ins cl da [])) (fun u J => u = .non ∧ Q (.ref a) J) (E σ)
end
/-- behind a raise all is as it was, beside it the new one's own dict -/
theorem raised_keeps {G : Hp} {a d : Addr} {o1 o2 o3 o4 : HO} (na : G a = none) (ndd : G d = none) : Same G (upd (del (upd (upd (upd G a o1) d o2) a o3) a) d o4) := fun b o e => by
  have ba := ne_of_none e na
  have bd := ne_of_none e ndd
  rw [upd_ne bd, del_ne ba, upd_ne ba, upd_ne bd, upd_ne ba]
  exact e
/-- how a refusal is made: its field what is what it is made with, its field word its class's name -/
def sp_initX (C : Addr) (nm : Str) : Sp := fun vs H Q _ => ∃ (a : Addr) (v : V), vs = [.ref a, v] ∧ H a = some (exo a C none) ∧ ∀ dx, H dx = none → dx ≠ a → Q .non (upd (upd H dx (exd dx (wh nm v))) a (exo a C (some dx)))
end KR
/-! ### objects that change: frames, dicts by their keys, rules -/
namespace KR
open PySem PySem.Spec PyProof.Rows L2
/-- all but the region R is as it was; what is a tuple or a table stays one -/
structure Off (K : PySem.W.Frag) (R : Addr → Prop) (H H' : Hp) : Prop where
  keep : ∀ b o, ¬ R b → H b = some o → (∀ q, o ≠ .tbl q) → H' b = some o
  tab : ∀ b, GxR.TabG H b → GxR.TabG H' b
  tk : TK K H H'
section
variable {K : PySem.W.Frag} {R R2 : Addr → Prop} {H H' H1 H2 : Hp} {p : Addr} {o o2 : HO}
/-- a thing that may change: no tuple, no table, not locked -/
structure Chg (o : HO) : Prop where
  t : ∀ xs, o ≠ .tup xs
  f : ∀ b y, o ≠ .frz b y
  b : ∀ q, o ≠ .tbl q
theorem Chg.lst {xs : List V} : Chg (.lst xs) := ⟨fun _ z => (by cases z), fun _ _ z => (by cases z), fun _ z => (by cases z)⟩
theorem Chg.dK {xs : List (Key × V)} : Chg (.dK xs) := ⟨fun _ z => (by cases z), fun _ _ z => (by cases z), fun _ z => (by cases z)⟩
theorem Chg.ins {C dx : Addr} {xs : List (Str × V)} : Chg (.ins C dx xs) := ⟨fun _ z => (by cases z), fun _ _ z => (by cases z), fun _ z => (by cases z)⟩
theorem Off.refl : Off K R H H := ⟨fun _ _ _ h _ => h, fun _ h => h, .refl⟩
theorem Off.sm (s : Sm H H') : Off K R H H' := ⟨fun b o _ h n => s.keep b o h n, s.tab, .sm s⟩
theorem Off.same (s : Same H H') : Off K R H H' := .sm (.of s)
theorem Off.mono (h : Off K R H H') (k : ∀ a, R a → R2 a) : Off K R2 H H' := ⟨fun b o n => h.keep b o fun z => n (k b z), h.tab, h.tk⟩
/-- nothing stands there, a table at most -/
def Nw (H : Hp) (a : Addr) : Prop := ∀ o, H a = some o → ∃ q, o = .tbl q
theorem Nw.of {a : Addr} (h : H a = none) : Nw H a := fun o e => by rw [h] at e; cases e
theorem Nw.no {a : Addr} (h : Nw H a) (e : H a = some o) (c : Chg o) : False := (h o e).elim fun q z => c.b q z
theorem Nw.ne {a b : Addr} (h : Nw H a) (e : H b = some o) (c : Chg o) : a ≠ b := fun z => h.no (z ▸ e) c
theorem Nw.back {a : Addr} (h : Off K R H H') (n : ¬ R a) (k : Nw H' a) : Nw H a := fun o e => Classical.byContradiction fun c => c (k o (h.keep a o n e fun q z => c ⟨q, z⟩))
theorem Off.trans (h : Off K R H H1) (k : Off K R2 H1 H2) (e : ∀ a, R2 a → R a ∨ Nw H a) : Off K R H H2 :=
  ⟨fun b o n a t => k.keep b o (fun z => (e b z).elim n fun y => (y o a).elim t) (h.keep b o n a t) t, fun b a => k.tab b (h.tab b a), h.tk.trans k.tk⟩
theorem Off.seq (h : Off K R H H1) (k : Off K R H1 H2) : Off K R H H2 := h.trans k fun _ => .inl
theorem Off.put (h : H p = some o) (c : Chg o) (r : R p) : Off K R H (upd H p o2) :=
  ⟨fun b u n e _ => by rw [upd_ne (fun z => n (by rw [z]; exact r))]; exact e, fun b ⟨q, e, t⟩ => ⟨q, by rw [upd_ne (fun z => by rw [z, h] at e; exact c.b q (Option.some.inj e))]; exact e, t⟩, .upd h c.t c.f⟩
theorem Off.new (h : H p = none) : Off K R H (upd H p o2) := .same (same_new h)
theorem Off.fresh (h : Off K R H H1) (n : H p = none) : Off K R H (upd H1 p o2) :=
  ⟨fun b u r e t => by rw [upd_ne (ne_of_none e n)]; exact h.keep b u r e t, fun b e => by
    have ne : b ≠ p := e.elim fun q z => ne_of_none z.1 n
    obtain ⟨q, e2, t⟩ := h.tab b e
    exact ⟨q, by rw [upd_ne ne]; exact e2, t⟩, fun b xs e => by
    have k := h.tk b xs e
    rcases e with (e | ⟨ob, e⟩) | e
    · rcases k with (k | ⟨o3, k⟩) | k
      · exact .inl (.inl (by rw [upd_ne (ne_of_none e n)]; exact k))
      · exact .inl (.inr ⟨o3, by rw [upd_ne (ne_of_none e n)]; exact k⟩)
      · exact .inr k
    · rcases k with (k | ⟨o3, k⟩) | k
      · exact .inl (.inl (by rw [upd_ne (ne_of_none e n)]; exact k))
      · exact .inl (.inr ⟨o3, by rw [upd_ne (ne_of_none e n)]; exact k⟩)
      · exact .inr k
    · exact .inr e⟩
theorem Off.write (h : Off K R H H1) (r : R p) (e : H p = some o) (c : Chg o) : Off K R H (upd H1 p o2) :=
  ⟨fun b u n e t => by rw [upd_ne (fun z => n (by rw [z]; exact r))]; exact h.keep b u n e t, fun b k => by
    have ne : b ≠ p := k.elim fun q z y => by rw [y, e] at z; exact c.b q (Option.some.inj z.1)
    obtain ⟨q, e2, t⟩ := h.tab b k
    exact ⟨q, by rw [upd_ne ne]; exact e2, t⟩, fun b xs k => by
    have k2 := h.tk b xs k
    rcases k with (k | ⟨ob, k⟩) | k
    · have ne : b ≠ p := fun y => by rw [y, e] at k; exact c.t _ (Option.some.inj k)
      rcases k2 with (k2 | ⟨o3, k2⟩) | k2
      · exact .inl (.inl (by rw [upd_ne ne]; exact k2))
      · exact .inl (.inr ⟨o3, by rw [upd_ne ne]; exact k2⟩)
      · exact .inr k2
    · have ne : b ≠ p := fun y => by rw [y, e] at k; exact c.f _ _ (Option.some.inj k)
      rcases k2 with (k2 | ⟨o3, k2⟩) | k2
      · exact .inl (.inl (by rw [upd_ne ne]; exact k2))
      · exact .inl (.inr ⟨o3, by rw [upd_ne ne]; exact k2⟩)
      · exact .inr k2
    · exact .inr k⟩
theorem Off.fr {xs : List V} (h : H p = some (.lst xs)) (f : Fr p H H') : Off K (· = p) H H' :=
  ⟨fun b u n e _ => f b u n e, fun b ⟨q, e, t⟩ => ⟨q, f b _ (fun z => by rw [z, h] at e; cases e) e, t⟩, .fs (fun xs z => by rw [h] at z; cases z) (fun b y z => by rw [h] at z; cases z) (.of f)⟩
theorem Off.box {n : Nat} (h : BoxAt H p n) (f : Fr p H H') : Off K (· = p) H H' := by
  obtain ⟨xs, e⟩ := box_lst h
  exact .fr e f
theorem Off.ins (h : Off K R H H') (n : ¬ R p) {C dx : Addr} {fs : List (Str × V)} (e : H p = some (.ins C dx fs)) : H' p = some (.ins C dx fs) := h.keep p _ n e nofun
theorem Off.dK (h : Off K R H H') (n : ¬ R p) {kvs : List (Key × V)} (e : H p = some (.dK kvs)) : H' p = some (.dK kvs) := h.keep p _ n e nofun
theorem Off.lst (h : Off K R H H') (n : ¬ R p) {xs : List V} (e : H p = some (.lst xs)) : H' p = some (.lst xs) := h.keep p _ n e nofun
theorem Off.rd (h : Off K R H H') (n : ¬ R p) {u : HO} (e : Rd H p u) (t : ∀ q, u ≠ .tbl q) : Rd H' p u := e.imp (fun e => h.keep p _ n e t) fun ⟨o, e⟩ => ⟨o, h.keep p _ n e nofun⟩
theorem Off.tbs {Ps : List Addr} (h : Off K R H H') (t : Tbs Ps H) : Tbs Ps H' := fun P hP => h.tab P (t P hP)
theorem Off.boxAt {n : Nat} (h : Off K R H H') (nr : ¬ R p) (B : BoxAt H p n) : BoxAt H' p n := by
  obtain ⟨a, b, c, h1, h2⟩ := B
  exact ⟨a, b, c, h.lst nr h1, h2⟩
theorem Off.seqL {a : Addr} {xs : List V} (h : Off K R H H') (n : ¬ R a) (e : SqL K H a xs) : SqL K H' a xs := by
  rcases e with (e | ⟨o, e⟩) | e
  · exact .inl (.inl (h.keep _ _ n e nofun))
  · exact .inl (.inr ⟨o, h.keep _ _ n e nofun⟩)
  · exact .inr e
/-- behind a locked walk that left all as it was -/
theorem lock_same {d : Addr} {od : Obj} {u : HO} (h : H d = some u) (s : Same (upd H d (.frz od u)) H') : Same H (upd H' d u) := fun b o e => by
  by_cases c : b = d
  · subst c
    rw [upd_same]
    exact h.symm.trans e
  · rw [upd_ne c]
    exact s b o (by rw [upd_ne c]; exact e)
theorem tk_lock {d : Addr} {od : Obj} {kvs : List (Key × V)} (h : H d = some (.dK kvs)) : TK K H (upd H d (.frz od (.dK kvs))) := .upd h (fun _ z => (by cases z)) (fun _ _ z => (by cases z))
theorem tk_unlock {d : Addr} {od : Obj} {kvs : List (Key × V)} (h : H d = some (.frz od (.dK kvs))) : TK K H (upd H d (.dK kvs)) := fun b xs e => by
  rcases e with (e | ⟨q, e⟩) | e
  · exact .inl (.inl (by rw [upd_ne (fun z => by rw [z, h] at e; cases e)]; exact e))
  · exact .inl (.inr ⟨q, by rw [upd_ne (fun z => by rw [z, h] at e; cases e)]; exact e⟩)
  · exact .inr e
end
/-! dicts by their keys -/
def set1 {α β : Type} [DecidableEq α] (f : α → β) (x : α) (v : β) : α → β := fun y => if y = x then v else f y
theorem set1_same {α β : Type} [DecidableEq α] {f : α → β} {x : α} {v : β} : set1 f x v x = v := if_pos rfl
theorem set1_ne {α β : Type} [DecidableEq α] {f : α → β} {x y : α} {v : β} (h : y ≠ x) : set1 f x v y = f y := if_neg h
def addK {α : Type} [DecidableEq α] (l : List α) (x : α) : List α := if x ∈ l then l else l ++ [x]
def byK {α : Type} (c : α → Key) (l : List α) (f : α → V) : List (Key × V) := l.map fun x => (c x, f x)
section
variable {α : Type} [DecidableEq α] {c : α → Key} {f g : α → V} {x : α} {v : V}
theorem byK_len {l : List α} : (byK c l f).length = l.length := List.length_map _
theorem byN_keys {l : List Str} {f : Str → V} : (byK (Sum.inr : Str → Key) l f).map (fun kv => kV kv.1) = l.map V.str := by
  unfold byK
  rw [List.map_map]
  rfl
theorem byK_get {l : List α} {i : Nat} {kv : Key × V} (h : (byK c l f)[i]? = some kv) : ∃ y, l[i]? = some y ∧ kv = (c y, f y) := by
  unfold byK at h
  rw [List.getElem?_map] at h
  cases e : l[i]? with
  | none => rw [e] at h; cases h
  | some y => rw [e] at h; exact ⟨y, rfl, (Option.some.inj h).symm⟩
theorem byK_congr {l : List α} (h : ∀ y ∈ l, f y = g y) : byK c l f = byK c l g := List.map_congr_left fun y hy => by rw [h y hy]
theorem byK_val (inj : ∀ a b, c a = c b → a = b) : ∀ {l : List α}, x ∈ l → valV (byK c l f) (c x) = some (f x)
  | y :: l, h => by
    by_cases e : y = x
    · subst e
      exact valV_pos (p := (c y, f y)) rfl
    · refine (valV_neg (p := (c y, f y)) (r := byK c l f) (fun z => e (inj _ _ z))).trans (byK_val inj ?_)
      rcases List.mem_cons.mp h with z | z
      · exact absurd z.symm e
      · exact z
theorem byK_none (inj : ∀ a b, c a = c b → a = b) : ∀ {l : List α}, x ∉ l → valV (byK c l f) (c x) = none
  | [], _ => rfl
  | y :: l, h => (valV_neg (p := (c y, f y)) (r := byK c l f) (fun z => h (by rw [inj _ _ z]; exact List.mem_cons_self))).trans (byK_none inj fun z => h (List.mem_cons_of_mem _ z))
theorem byK_put (inj : ∀ a b, c a = c b → a = b) {l : List α} : putK (byK c l f) (c x) v = byK c (addK l x) (set1 f x v) := by
  unfold putK addK
  rw [valV_any]
  by_cases h : x ∈ l
  · rw [byK_val inj h, if_pos (show (some (f x)).isSome = true from rfl), if_pos h]
    unfold byK
    rw [List.map_map]
    refine List.map_congr_left fun y _ => ?_
    show (if c y = c x then (c y, v) else (c y, f y)) = (c y, set1 f x v y)
    unfold set1
    by_cases e : y = x
    · rw [if_pos (by rw [e]), if_pos e]
    · rw [if_neg (fun z => e (inj _ _ z)), if_neg e]
  · rw [byK_none inj h, if_neg (show ¬ (none : Option V).isSome = true from nofun), if_neg h]
    unfold byK
    rw [List.map_append]
    congr 1
    · refine List.map_congr_left fun y hy => ?_
      show (c y, f y) = (c y, set1 f x v y)
      rw [set1_ne (fun e => h (by rw [← e]; exact hy))]
    · show [(c x, v)] = [(c x, set1 f x v x)]
      rw [set1_same]
end
abbrev kN (x : Str) : Key := Sum.inr x
abbrev kI (k : Int) : Key := Sum.inl k
theorem kN_inj : ∀ a b : Str, kN a = kN b → a = b := fun _ _ h => Sum.inr.inj h
theorem dget_n {H : Hp} {a : Addr} {l : List Str} {f : Str → V} {x : Str} (h : Rd H a (.dK (byK kN l f))) (hx : x ∈ l) : DGet H a (.str x) (some (f x)) := .inl ⟨_, kN x, h, rfl, (byK_val kN_inj hx).symm⟩
theorem dget_n0 {H : Hp} {a : Addr} {l : List Str} {f : Str → V} {x : Str} (h : Rd H a (.dK (byK kN l f))) (hx : x ∉ l) : DGet H a (.str x) none := .inl ⟨_, kN x, h, rfl, (byK_none kN_inj hx).symm⟩
/-! walks over a locked dict -/
theorem for_keys {d : Addr} {od : Obj} {kvs : List (Key × V)} {g : TG} {tb : TS} {D : Ends} {σ : L2.St} {H : Hp} (Pv : Nat → L2.St → Hp → Prop) (h0 : Pv 0 σ H) (hl : ∀ i σ H, i ≤ kvs.length → Pv i σ H → H d = some (.frz od (.dK kvs)))
    (hs : ∀ i k v σ H, kvs[i]? = some (k, v) → Pv i σ H → g (kV k) σ H fun σ2 H2 => tb { D with nx := Pv (i + 1), ct := Pv (i + 1), bk := D.nx } σ2 H2) (hd : ∀ σ H, Pv kvs.length σ H → D.nx σ H) :
    ∃ W : Nat → Nat → L2.St → Hp → Prop, (∃ m, W 0 m σ H) ∧ ∀ i m σ H, W i m σ H →
      ((Itk d od kvs).stop i H ∧ D.nx σ H) ∨ ((Itk d od kvs).go i H ∧ ∃ N : L2.St → Hp → Prop, (∀ σ' H', N σ' H' → ∃ m', m' < m ∧ W (i + 1) m' σ' H') ∧ ∀ x H', (Itk d od kvs).yld i H x H' → g x σ H' fun σ2 H2 => tb { D with nx := N, ct := N, bk := D.nx } σ2 H2) := by
  refine ⟨fun i m σ H => m = kvs.length - i ∧ i ≤ kvs.length ∧ Pv i σ H, ⟨kvs.length, by simp, Nat.zero_le _, h0⟩, ?_⟩
  rintro i m σ H ⟨rfl, hi, p⟩
  have q := hl i σ H hi p
  by_cases hlt : i < kvs.length
  · refine .inr ⟨⟨q, hlt⟩, Pv (i + 1), fun σ' H' p' => ⟨kvs.length - (i + 1), by omega, rfl, hlt, p'⟩, fun x H' y => ?_⟩
    obtain ⟨e, k, v, y, ex⟩ := y
    subst e ex
    exact hs i k v σ _ y p
  · have e : i = kvs.length := by omega
    subst e
    exact .inl ⟨⟨q, Nat.le_refl _⟩, hd σ H p⟩
theorem for_vals {d : Addr} {od : Obj} {kvs : List (Key × V)} {g : TG} {tb : TS} {D : Ends} {σ : L2.St} {H : Hp} (Pv : Nat → L2.St → Hp → Prop) (h0 : Pv 0 σ H) (hl : ∀ i σ H, i ≤ kvs.length → Pv i σ H → H d = some (.frz od (.dK kvs)))
    (hs : ∀ i k v σ H, kvs[i]? = some (k, v) → Pv i σ H → g v σ H fun σ2 H2 => tb { D with nx := Pv (i + 1), ct := Pv (i + 1), bk := D.nx } σ2 H2) (hd : ∀ σ H, Pv kvs.length σ H → D.nx σ H) :
    ∃ W : Nat → Nat → L2.St → Hp → Prop, (∃ m, W 0 m σ H) ∧ ∀ i m σ H, W i m σ H →
      ((Itd d od kvs).stop i H ∧ D.nx σ H) ∨ ((Itd d od kvs).go i H ∧ ∃ N : L2.St → Hp → Prop, (∀ σ' H', N σ' H' → ∃ m', m' < m ∧ W (i + 1) m' σ' H') ∧ ∀ x H', (Itd d od kvs).yld i H x H' → g x σ H' fun σ2 H2 => tb { D with nx := N, ct := N, bk := D.nx } σ2 H2) := by
  refine ⟨fun i m σ H => m = kvs.length - i ∧ i ≤ kvs.length ∧ Pv i σ H, ⟨kvs.length, by simp, Nat.zero_le _, h0⟩, ?_⟩
  rintro i m σ H ⟨rfl, hi, p⟩
  have q := hl i σ H hi p
  by_cases hlt : i < kvs.length
  · refine .inr ⟨⟨q, hlt⟩, Pv (i + 1), fun σ' H' p' => ⟨kvs.length - (i + 1), by omega, rfl, hlt, p'⟩, fun x H' y => ?_⟩
    obtain ⟨e, k, y⟩ := y
    subst e
    exact hs i k x σ _ y p
  · have e : i = kvs.length := by omega
    subst e
    exact .inl ⟨⟨q, Nat.le_refl _⟩, hd σ H p⟩
/-! rules -/
section
variable {X : Cx}
theorem pe_fldK {K : PySem.W.Frag} {e : Expr} {f : Str} {pos : Pos} {ta : TE} (h : X.K = K) (he : PE X e ta) (hb : attributeBase e f X.env (eval e X.env) = eval e X.env) : PE X (.Attribute e f pos) (tFld K ta f) := h ▸ pe_fld he hb
/-- a dict beside an empty one -/
def rEqDE : R2 := fun x y H Q => ∃ a b ks, x = .ref a ∧ y = .ref b ∧ H a = some (.dK ks) ∧ H b = some (.dK []) ∧ Q (.bl ks.isEmpty) H
def rNeDE : R2 := fun x y H Q => ∃ a b ks, x = .ref a ∧ y = .ref b ∧ H a = some (.dK ks) ∧ H b = some (.dK []) ∧ Q (.bl (!ks.isEmpty)) H
/-- each second one of twelve -/
def ev2 {α : Type} : List α → List α
  | a :: _ :: r => a :: ev2 r
  | [a] => [a]
  | [] => []
def tEv2 (K : PySem.W.Frag) (te : TE) : TE := fun σ H Q => te σ H fun x H1 => ∃ a xs, x = .ref a ∧ SqL K H1 a xs ∧ xs.length = 12 ∧ ∀ p, H1 p = none → Q (.ref p) (upd H1 p (.lst (ev2 xs)))
/-- how many keys -/
def rLenDK : List V → Hp → VK → Prop := fun xs H Q => ∃ a kvs, xs = [.ref a] ∧ Rd H a (.dK kvs) ∧ Q (.int ((kvs.length : Nat) : Int)) H
end
end KR
/-! ### moulds: what a mould, the moulds of a row, the law's own book of them hold -/
namespace KR
open PySem PySem.Spec PyProof.Rows L2
section
variable {K : PySem.W.Frag} {H H' : Hp} {v : V} {q s w : Rat} {n : Nat} {d : PyData}
theorem FrQ.tk {x : Addr} (h : FrQ K H x q) (t : TK K H H') : FrQ K H' x q := t _ _ h
theorem JuQ.tk {x : Addr} (h : JuQ K H x s w) (t : TK K H H') : JuQ K H' x s w := by
  obtain ⟨a, b, h1, h2, h3⟩ := h
  exact ⟨a, b, t _ _ h1, h2.tk t, h3.tk t⟩
/-- a value that is a fraction; a juice -/
def FQ (K : PySem.W.Frag) (H : Hp) (v : V) (q : Rat) : Prop := ∃ a, v = .ref a ∧ FrQ K H a q
def JQ (K : PySem.W.Frag) (H : Hp) (v : V) (s w : Rat) : Prop := ∃ a, v = .ref a ∧ JuQ K H a s w
theorem FQ.tk (h : FQ K H v q) (t : TK K H H') : FQ K H' v q := h.elim fun a z => ⟨a, z.1, z.2.tk t⟩
theorem JQ.tk (h : JQ K H v s w) (t : TK K H H') : JQ K H' v s w := h.elim fun a z => ⟨a, z.1, z.2.tk t⟩
/-- data of tuples alone: it stays -/
inductive Dtu (K : PySem.W.Frag) (H : Hp) : Nat → V → PyData → Prop
  | non (n : Nat) : Dtu K H (n + 1) .non .none
  | bl (n : Nat) (b : Bool) : Dtu K H (n + 1) (.bl b) (.bool b)
  | int (n : Nat) (i : Int) : Dtu K H (n + 1) (.int i) (.int i)
  | str (n : Nat) (x : Str) (ok : PyData.canLay0 (.str x) = true) : Dtu K H (n + 1) (.str x) (.str x)
  | tup {n : Nat} {a : Addr} {xs : List V} {ds : List PyData} : SqT K H a xs → xs.length = ds.length → xs.length ≤ 100000 → (∀ (i : Nat) (x : V) (d : PyData), xs[i]? = some x → ds[i]? = some d → Dtu K H n x d) → Dtu K H (n + 1) (.ref a) (.tuple ds)
theorem Dtu.tk (t : TK K H H') : ∀ {n : Nat} {v : V} {d : PyData}, Dtu K H n v d → Dtu K H' n v d := by
  intro n v d h
  induction h with
  | non n => exact .non n
  | bl n b => exact .bl n b
  | int n i => exact .int n i
  | str n x ok => exact .str n x ok
  | tup h1 h2 h3 _ ih => exact .tup (t _ _ h1) h2 h3 ih
theorem Dtu.dk : ∀ {n : Nat} {v : V} {d : PyData}, Dtu K H n v d → Dk K H n v d := by
  intro n v d h
  induction h with
  | non n => exact .non n
  | bl n b => exact .bl n b
  | int n i => exact .int n i
  | str n x ok => exact .str n x ok
  | tup h1 h2 h3 _ ih => exact .tup h1 h2 h3 ih
theorem Dtu.up {m : Nat} (h : Dtu K H n v d) : n ≤ m → Dtu K H m v d := by
  intro le
  induction h generalizing m with
  | non n => obtain ⟨k, rfl⟩ : ∃ k, m = k + 1 := ⟨m - 1, by omega⟩; exact .non k
  | bl n b => obtain ⟨k, rfl⟩ : ∃ k, m = k + 1 := ⟨m - 1, by omega⟩; exact .bl k b
  | int n i => obtain ⟨k, rfl⟩ : ∃ k, m = k + 1 := ⟨m - 1, by omega⟩; exact .int k i
  | str n x ok => obtain ⟨k, rfl⟩ : ∃ k, m = k + 1 := ⟨m - 1, by omega⟩; exact .str k x ok
  | tup h1 h2 h3 _ ih => obtain ⟨k, rfl⟩ : ∃ k, m = k + 1 := ⟨m - 1, by omega⟩; exact .tup h1 h2 h3 fun i x d a b => ih i x d a b (by omega)
def DtuAll (K : PySem.W.Frag) (H : Hp) (n : Nat) (xs : List V) (ds : List PyData) : Prop := xs.length = ds.length ∧ ∀ (i : Nat) (x : V) (d : PyData), xs[i]? = some x → ds[i]? = some d → Dtu K H n x d
theorem DtuAll.nil : DtuAll K H n [] [] := ⟨rfl, fun i x d h => by simp at h⟩
theorem DtuAll.cons {xs : List V} {ds : List PyData} (h : Dtu K H n v d) (t : DtuAll K H n xs ds) : DtuAll K H n (v :: xs) (d :: ds) :=
  ⟨by rw [List.length_cons, List.length_cons, t.1], fun i u y hu hv => match i, hu, hv with
    | 0, hu, hv => by cases hu; cases hv; exact h
    | i + 1, hu, hv => t.2 i u y hu hv⟩
theorem DtuAll.tk {xs : List V} {ds : List PyData} (h : DtuAll K H n xs ds) (t : TK K H H') : DtuAll K H' n xs ds := ⟨h.1, fun i x d a b => (h.2 i x d a b).tk t⟩
theorem DtuAll.tup {xs : List V} {ds : List PyData} {a : Addr} (t : DtuAll K H n xs ds) (h : SqT K H a xs) (z : xs.length ≤ 100000) : Dtu K H (n + 1) (.ref a) (.tuple ds) := .tup h t.1 z t.2
theorem FrQ.dtu {x : Addr} (h : FrQ K H x q) (n : Nat := 0) : Dtu K H (n + 2) (.ref x) (dq q) := DtuAll.tup (.cons (.int _ _) (.cons (.int _ _) .nil)) h (by show 2 ≤ 100000; decide)
theorem JuQ.dtu {x : Addr} (h : JuQ K H x s w) (n : Nat := 0) : Dtu K H (n + 3) (.ref x) (dj s w) := by
  obtain ⟨a, b, h1, h2, h3⟩ := h
  exact DtuAll.tup (.cons (h2.dtu n) (.cons (h3.dtu n) .nil)) h1 (by show 2 ≤ 100000; decide)
theorem Dtu.ref {ds : List PyData} (h : Dtu K H n v (.tuple ds)) : ∃ a, v = .ref a := by
  cases h with
  | tup h1 h2 h3 h4 => exact ⟨_, rfl⟩
end
section
variable {K : PySem.W.Frag}
end
/-! one mould -/
structure Mo where
  room : Int
  drip : Rat
  s : Rat
  w : Rat
  ks : List Int
  q : Int → Rat
  cur : Bool
/-- all of its sugar as it was poured -/
def Mo.tot (m : Mo) : Rat := zsum (m.ks.map m.q)
def srt (ks : List Int) : List Int := ks.mergeSort fun a b => decide (a ≤ b)
def Mo.shp (m : Mo) (k : Int) : PyData := .tuple [.int k, dq (m.q k / m.tot)]
/-- the shares that it bears -/
def Mo.shd (m : Mo) : PyData := .tuple ((srt m.ks).map fun k => .tuple [.int k, dq (m.q k / m.tot)])
def mo0 (room : Int) (drip : Rat) : Mo := ⟨room, drip, 0, 0, [], fun _ => 0, false⟩
def Mo.bear (m : Mo) (k : Int) (s : Rat) : Mo := { m with ks := addK m.ks k, q := set1 m.q k ((if k ∈ m.ks then m.q k else 0) + s) }
def Mo.drained (m : Mo) : Mo := { m with s := m.s - m.s * m.drip, w := 0, cur := true }
def Mo.cleared (m : Mo) : Mo := { m with s := 0, w := 0, ks := [], cur := false }
def Mo.poured (m : Mo) (s w : Rat) : Mo := { m with s := s, w := w }
/-- numbers of it that can be reckoned with -/
structure Mo.Fit (m : Mo) : Prop where
  nd : m.ks.Nodup
  len : m.ks.length < 64
  big : ∀ k ∈ m.ks, Big (m.q k)
  add : AddOk (m.ks.map m.q)
  tot : m.ks ≠ [] → m.tot ≠ 0
  s : Big m.s
  w : Big m.w
  drip : Big m.drip
  gone : Big (m.s * m.drip)
/-- the attributes of a mould, as they are stored -/
def mf (room : Int) (dv jv : V) (g : Addr) (cur : Bool) : List (Str × V) := [("room", .int room), ("drip", dv), ("juice", jv), ("sugars", .ref g), ("cured", .bl cur)]
def mfs (rv : V) (t : Addr) (vv : V) (l : Addr) : List (Str × V) := [("_row", rv), ("_table", .ref t), ("_vat", vv), ("_loaves", .ref l)]
/-- a mould of the class C stands at c, its sugars at g -/
structure CellAt (K : PySem.W.Frag) (C : Addr) (H : Hp) (c g : Addr) (m : Mo) : Prop where
  at_ : ∃ dx dv jv, H c = some (.ins C dx (mf m.room dv jv g m.cur)) ∧ FQ K H dv m.drip ∧ JQ K H jv m.s m.w
  sug : ∃ f : Int → V, H g = some (.dK (byK kI m.ks f)) ∧ ∀ k ∈ m.ks, FQ K H (f k) (m.q k)
theorem CellAt.off {K : PySem.W.Frag} {C : Addr} {H H' : Hp} {c g : Addr} {m : Mo} {R : Addr → Prop} (h : CellAt K C H c g m) (o : Off K R H H') (nc : ¬ R c) (ng : ¬ R g) : CellAt K C H' c g m := by
  obtain ⟨⟨dx, dv, jv, h1, h2, h3⟩, f, h4, h5⟩ := h
  exact ⟨⟨dx, dv, jv, o.ins nc h1, h2.tk o.tk, h3.tk o.tk⟩, f, o.dK ng h4, fun k hk => (h5 k hk).tk o.tk⟩
/-- the moulds of a row, by their names -/
structure MAd where
  p : Addr
  t : Addr
  l : Addr
  c : Str → Addr
  g : Str → Addr
def MAd.R (A : MAd) (nms : List Str) : Addr → Prop := fun a => a = A.p ∨ a = A.l ∨ ∃ x ∈ nms, a = A.c x ∨ a = A.g x
structure MouldsAt (K : PySem.W.Frag) (CO CM : Addr) (H : Hp) (A : MAd) (nms : List Str) (st : Str → Mo) (vs vw : Rat) (lds : List PyData) : Prop where
  p : ∃ dx rv vv, H A.p = some (.ins CO dx (mfs rv (A.t) vv A.l)) ∧ JQ K H vv vs vw
  t : Rd H A.t (.dK (byK kN nms fun x => .ref (A.c x)))
  l : ∃ lvs, H A.l = some (.lst lvs) ∧ lvs.length ≤ 50000 ∧ DtuAll K H 5 lvs lds
  cell : ∀ x ∈ nms, CellAt K CM H (A.c x) (A.g x) (st x)
  ci : ∀ x ∈ nms, ∀ y ∈ nms, A.c x = A.c y → x = y
  gi : ∀ x ∈ nms, ∀ y ∈ nms, A.g x = A.g y → x = y
  gt : ∀ x ∈ nms, A.g x ≠ A.t
  cp : ∀ x ∈ nms, A.c x ≠ A.p
section
variable {K : PySem.W.Frag} {CO CM : Addr} {H H' : Hp} {A : MAd} {nms : List Str} {st st' : Str → Mo} {vs vw : Rat} {lds : List PyData} {R : Addr → Prop}
theorem MouldsAt.off (h : MouldsAt K CO CM H A nms st vs vw lds) (o : Off K R H H') (n : ∀ a, A.R nms a → ¬ R a) (nt : ¬ R A.t) : MouldsAt K CO CM H' A nms st vs vw lds := by
  obtain ⟨⟨dx, rv, vv, h1, h2⟩, ht, ⟨lvs, h3, h4, h5⟩, hc, ci, gi, gt, cp⟩ := h
  exact ⟨⟨dx, rv, vv, o.ins (n _ (.inl rfl)) h1, h2.tk o.tk⟩, o.rd nt ht nofun, ⟨lvs, o.lst (n _ (.inr (.inl rfl))) h3, h4, h5.tk o.tk⟩, fun x hx => (hc x hx).off o (n _ (.inr (.inr ⟨x, hx, .inl rfl⟩))) (n _ (.inr (.inr ⟨x, hx, .inr rfl⟩))), ci, gi, gt, cp⟩
/-- one mould of them changed: the heap but c, g of it stayed -/
theorem MouldsAt.set (h : MouldsAt K CO CM H A nms st vs vw lds) {x : Str} (hx : x ∈ nms) {m : Mo} (o : Off K (fun a => a = A.c x ∨ a = A.g x) H H') (hc : CellAt K CM H' (A.c x) (A.g x) m) : MouldsAt K CO CM H' A nms (set1 st x m) vs vw lds := by
  have nt : ¬ (A.t = A.c x ∨ A.t = A.g x) := fun z => by
    rcases z with z | z
    · obtain ⟨⟨dx, dv, jv, h1, _⟩, _⟩ := h.cell x hx
      rcases h.t with t | ⟨ob, t⟩ <;> (rw [z, h1] at t; cases t)
    · exact h.gt x hx z.symm
  obtain ⟨⟨dx, rv, vv, h1, h2⟩, ht, ⟨lvs, h3, h4, h5⟩, hcs, ci, gi, gt, cp⟩ := h
  obtain ⟨⟨dx2, dv, jv, k1, _⟩, f, k2, _⟩ := hcs x hx
  refine ⟨⟨dx, rv, vv, o.ins (fun z => ?_) h1, h2.tk o.tk⟩, o.rd nt ht nofun, ⟨lvs, o.lst (fun z => ?_) h3, h4, h5.tk o.tk⟩, fun y hy => ?_, ci, gi, gt, cp⟩
  · rcases z with z | z
    · exact cp x hx z.symm
    · rw [z, k2] at h1; cases h1
  · rcases z with z | z
    · rw [z, k1] at h3; cases h3
    · rw [z, k2] at h3; cases h3
  · by_cases e : y = x
    · subst e
      rw [set1_same]
      exact hc
    · rw [set1_ne e]
      obtain ⟨⟨dx3, dv3, jv3, k3, _⟩, f3, k4, _⟩ := hcs y hy
      refine (hcs y hy).off o (fun z => ?_) (fun z => ?_)
      · rcases z with z | z
        · exact e (ci y hy x hx z)
        · rw [z, k2] at k3; cases k3
      · rcases z with z | z
        · rw [z, k1] at k4; cases k4
        · exact e (gi y hy x hx z)
end
/-! refusals -/
def Rf (C : Addr) (nm : Str) (v : V) (H : Hp) (E : XK) : Prop := ∀ d H', Same H H' → H' d = some (.xd (wh nm v)) → E (.ref C) (some d) H'
/-! contracts -/
def sp_jw2 (K : PySem.W.Frag) : Sp := fun vs H Q _ => ∃ (x y : Addr) (s w s' w' : Rat), vs = [.ref x, .ref y] ∧ JuQ K H x s w ∧ JuQ K H y s' w' ∧ Big s ∧ Big w ∧ Big s' ∧ Big w' ∧ ∀ z H', Same H H' → JuQ K H' z (s + s') (w + w') → Q (.ref z) H'
def sp_volW (K : PySem.W.Frag) : Sp := fun vs H Q _ => ∃ (x : Addr) (s w : Rat), vs = [.ref x] ∧ JuQ K H x s w ∧ Big s ∧ Big w ∧ ∀ z H', Same H H' → FrQ K H' z (s + w) → Q (.ref z) H'
def sp_lessB (K : PySem.W.Frag) : Sp := fun vs H Q _ => ∃ (x y : Addr) (p q : Rat), vs = [.ref x, .ref y] ∧ FrQ K H x p ∧ FrQ K H y q ∧ Big p ∧ Big q ∧ Q (.bl (decide (p < q))) H
def sp_Mould_init (K : PySem.W.Frag) (C : Addr) : Sp := fun vs H Q _ => ∃ (c dx : Addr) (r : Int) (dv : V) (d : Rat), vs = [.ref c, .int r, dv] ∧ H c = some (.ins C dx []) ∧ FQ K H dv d ∧ ∀ g H', H g = none → CellAt K C H' c g (mo0 r d) → Off K (· = c) H H' → Q .non H'
def sp_Mould_bear (K : PySem.W.Frag) (C : Addr) : Sp := fun vs H Q _ => ∃ (c g : Addr) (m : Mo) (k : Int) (a : Addr) (s : Rat), vs = [.ref c, .int k, .ref a] ∧ CellAt K C H c g m ∧ FrQ K H a s ∧ Big s ∧ (k ∈ m.ks → Big (m.q k)) ∧ m.ks.length < 1000 ∧ ∀ H', CellAt K C H' c g (m.bear k s) → Off K (· = g) H H' → Q .non H'
def sp_Mould_strike_shares (K : PySem.W.Frag) (C : Addr) : Sp := fun vs H Q _ => ∃ (c g : Addr) (m : Mo), vs = [.ref c] ∧ CellAt K C H c g m ∧ m.Fit ∧ ∀ a H', Same H H' → Dtu K H' 4 (.ref a) m.shd → Q (.ref a) H'
def sp_Mould_drip_out (K : PySem.W.Frag) (C : Addr) : Sp := fun vs H Q _ => ∃ (c g : Addr) (m : Mo), vs = [.ref c] ∧ CellAt K C H c g m ∧ m.Fit ∧ ∀ a H', CellAt K C H' c g m.drained → JuQ K H' a (m.s * m.drip) m.w → Off K (· = c) H H' → Q (.ref a) H'
def sp_Mould_clear_out (K : PySem.W.Frag) (C : Addr) : Sp := fun vs H Q _ => ∃ (c g : Addr) (m : Mo), vs = [.ref c] ∧ CellAt K C H c g m ∧ ∀ g' H', H g' = none → CellAt K C H' c g' m.cleared → Off K (· = c) H H' → Q .non H'
def sp_need_some (K : PySem.W.Frag) (CE : Addr) : Sp := fun vs H Q E => ∃ (v : V) (a : Addr) (s w : Rat), vs = [v, .ref a] ∧ JuQ K H a s w ∧ ((s = 0 ∧ w = 0) → Rf CE "Empty" v H E) ∧ (¬ (s = 0 ∧ w = 0) → ∀ H', Same H H' → Q .non H')
def sp_poured_into (K : PySem.W.Frag) (CR : Addr) : Sp := fun vs H Q E => ∃ (v : V) (r : Int) (a b : Addr) (s w s' w' : Rat), vs = [v, .int r, .ref a, .ref b] ∧ JuQ K H a s w ∧ JuQ K H b s' w' ∧ Big s ∧ Big w ∧ Big s' ∧ Big w' ∧ Big (s + s') ∧ Big (w + w') ∧ Big (s + s' + (w + w')) ∧ Big (r : Rat) ∧
  ((r : Rat) < s + s' + (w + w') → Rf CR "NoRoom" v H E) ∧ (¬ (r : Rat) < s + s' + (w + w') → ∀ z H', Same H H' → JuQ K H' z (s + s') (w + w') → Q (.ref z) H')
def sp_Moulds_named (K : PySem.W.Frag) (CO CN : Addr) : Sp := fun vs H Q E => ∃ (p t l dx : Addr) (rv vv : V) (x : Str) (nms : List Str) (c : Str → Addr), vs = [.ref p, .str x] ∧ H p = some (.ins CO dx (mfs rv t vv l)) ∧ Rd H t (.dK (byK kN nms fun x => .ref (c x))) ∧
  (x ∉ nms → Rf CN "NoMould" (.str x) H E) ∧ (x ∈ nms → Q (.ref (c x)) H)
/-- pours: a mould's name, sugar, water -/
abbrev Pour := Str × Rat × Rat
def PourAt (K : PySem.W.Frag) (H : Hp) (v : V) (p : Pour) : Prop := ∃ t j, v = .ref t ∧ SqT K H t [.str p.1, .ref j] ∧ JuQ K H j p.2.1 p.2.2
abbrev Ju := Rat × Rat
def jst (F : Str → Ju) (p : Pour) : Str → Ju := set1 F p.1 ((F p.1).1 + p.2.1, (F p.1).2 + p.2.2)
def beh (F : Str → Ju) (ps : List Pour) : Str → Ju := ps.foldl jst F
def pks (ps : List Pour) : List Str := ps.foldl (fun l p => addK l p.1) []
def jus (st : Str → Mo) : Str → Ju := fun x => ((st x).s, (st x).w)
/-- the first pour at fault: 0 no mould, 1 cured, 2 no room -/
def pflt (nms : List Str) (st : Str → Mo) : (Str → Ju) → List Pour → Option (Nat × Str)
  | _, [] => none
  | F, p :: r => if p.1 ∉ nms then some (0, p.1) else if (st p.1).cur = true then some (1, p.1) else if ((st p.1).room : Rat) < (F p.1).1 + p.2.1 + ((F p.1).2 + p.2.2) then some (2, p.1) else pflt nms st (jst F p) r
theorem foldl_take {α β : Type} {f : β → α → β} {b : β} {l : List α} {i : Nat} {x : α} (h : l[i]? = some x) : (l.take (i + 1)).foldl f b = f ((l.take i).foldl f b) x := by
  rw [take_one h, List.foldl_append] <;> rfl
def sp_Moulds__juices_behind (K : PySem.W.Frag) (CO CM CN CC CR : Addr) : Sp := fun vs H Q E => ∃ (A : MAd) (nms : List Str) (st : Str → Mo) (v1 v2 : Rat) (lds : List PyData) (l : Addr) (pvs : List V) (ps : List Pour), vs = [.ref A.p, .ref l] ∧ MouldsAt K CO CM H A nms st v1 v2 lds ∧ SqL K H l pvs ∧ pvs.length = ps.length ∧ (∀ (i : Nat) (v : V) (p : Pour), pvs[i]? = some v → ps[i]? = some p → PourAt K H v p) ∧ ps.length ≤ 1000 ∧
  (∀ p ∈ ps, Big p.2.1 ∧ Big p.2.2) ∧ (∀ i, i ≤ ps.length → ∀ x ∈ nms, Big (beh (jus st) (ps.take i) x).1 ∧ Big (beh (jus st) (ps.take i) x).2 ∧ Big ((beh (jus st) (ps.take i) x).1 + (beh (jus st) (ps.take i) x).2)) ∧ (∀ x ∈ nms, Big ((st x).room : Rat)) ∧
  (∀ x, pflt nms st (jus st) ps = some (0, x) → Rf CN "NoMould" (.str x) H E) ∧ (∀ x, pflt nms st (jus st) ps = some (1, x) → Rf CC "Cured" (.str x) H E) ∧ (∀ x, pflt nms st (jus st) ps = some (2, x) → Rf CR "NoRoom" (.str x) H E) ∧
  (pflt nms st (jus st) ps = none → ∀ D f H', H D = none → Same H H' → H' D = some (.dK (byK kN (pks ps) f)) → (∀ x ∈ pks ps, JQ K H' (f x) (beh (jus st) ps x).1 (beh (jus st) ps x).2) → Q (.ref D) H')
/-- what a filling leaves -/
def fst1 (F : Str → Ju) (k : Int) (S : Str → Mo) (p : Pour) : Str → Mo := set1 S p.1 (((S p.1).poured (F p.1).1 (F p.1).2).bear k p.2.1)
def filled (st : Str → Mo) (k : Int) (ps : List Pour) : Str → Mo := ps.foldl (fst1 (beh (jus st) ps) k) st
def sp_Moulds_fill (K : PySem.W.Frag) (CO CM CN CC CR : Addr) : Sp := fun vs H Q E => ∃ (A : MAd) (nms : List Str) (st : Str → Mo) (v1 v2 : Rat) (lds : List PyData) (k : Int) (l : Addr) (pvs : List V) (ps : List Pour), vs = [.ref A.p, .int k, .ref l] ∧ MouldsAt K CO CM H A nms st v1 v2 lds ∧ SqL K H l pvs ∧ ¬ A.R nms l ∧ pvs.length = ps.length ∧ (∀ (i : Nat) (v : V) (p : Pour), pvs[i]? = some v → ps[i]? = some p → PourAt K H v p) ∧ ps.length ≤ 1000 ∧
  (∀ p ∈ ps, Big p.2.1 ∧ Big p.2.2) ∧ (∀ i, i ≤ ps.length → ∀ x ∈ nms, Big (beh (jus st) (ps.take i) x).1 ∧ Big (beh (jus st) (ps.take i) x).2 ∧ Big ((beh (jus st) (ps.take i) x).1 + (beh (jus st) (ps.take i) x).2)) ∧ (∀ x ∈ nms, Big ((st x).room : Rat)) ∧
  (∀ i, i < ps.length → ∀ x ∈ nms, ((ps.take i).foldl (fst1 (beh (jus st) ps) k) st x).ks.length < 1000 ∧ (k ∈ ((ps.take i).foldl (fst1 (beh (jus st) ps) k) st x).ks → Big (((ps.take i).foldl (fst1 (beh (jus st) ps) k) st x).q k))) ∧
  (∀ x, pflt nms st (jus st) ps = some (0, x) → Rf CN "NoMould" (.str x) H E) ∧ (∀ x, pflt nms st (jus st) ps = some (1, x) → Rf CC "Cured" (.str x) H E) ∧ (∀ x, pflt nms st (jus st) ps = some (2, x) → Rf CR "NoRoom" (.str x) H E) ∧
  (pflt nms st (jus st) ps = none → ∀ H', MouldsAt K CO CM H' A nms (filled st k ps) v1 v2 lds → Off K (A.R nms) H H' → Q .non H')
def sp_Moulds_drain (K : PySem.W.Frag) (CO CM CN CE CC : Addr) : Sp := fun vs H Q E => ∃ (A : MAd) (nms : List Str) (st : Str → Mo) (v1 v2 : Rat) (lds : List PyData) (x : Str), vs = [.ref A.p, .str x] ∧ MouldsAt K CO CM H A nms st v1 v2 lds ∧ (x ∈ nms → (st x).Fit) ∧ Big v1 ∧ Big v2 ∧
  (x ∉ nms → Rf CN "NoMould" (.str x) H E) ∧ (x ∈ nms → ((st x).s = 0 ∧ (st x).w = 0) → Rf CE "Empty" (.str x) H E) ∧ (x ∈ nms → ¬ ((st x).s = 0 ∧ (st x).w = 0) → (st x).cur = true → Rf CC "Cured" (.str x) H E) ∧
  (x ∈ nms → ¬ ((st x).s = 0 ∧ (st x).w = 0) → (st x).cur = false → ∀ a H', MouldsAt K CO CM H' A nms (set1 st x (st x).drained) (v1 + (st x).s * (st x).drip) (v2 + (st x).w) lds → JuQ K H' a ((st x).s * (st x).drip) (st x).w → Off K (A.R nms) H H' → Q (.ref a) H')
def loafD (x : Str) (m : Mo) : PyData := .tuple [.str x, dq m.s, m.shd]
def sp_Moulds_knock (K : PySem.W.Frag) (CO CM CN CE CC : Addr) : Sp := fun vs H Q E => ∃ (A : MAd) (nms : List Str) (st : Str → Mo) (v1 v2 : Rat) (lds : List PyData) (x : Str), vs = [.ref A.p, .str x] ∧ MouldsAt K CO CM H A nms st v1 v2 lds ∧ (x ∈ nms → (st x).Fit ∧ PyData.canLay0 (.str x) = true) ∧ lds.length < 50000 ∧
  (x ∉ nms → Rf CN "NoMould" (.str x) H E) ∧ (x ∈ nms → ((st x).s = 0 ∧ (st x).w = 0) → Rf CE "Empty" (.str x) H E) ∧ (x ∈ nms → ¬ ((st x).s = 0 ∧ (st x).w = 0) → (st x).cur = false → Rf CC "NotCured" (.str x) H E) ∧
  (x ∈ nms → ¬ ((st x).s = 0 ∧ (st x).w = 0) → (st x).cur = true → ∀ a g H', H g = none → MouldsAt K CO CM H' { A with g := set1 A.g x g } nms (set1 st x (st x).cleared) v1 v2 (lds ++ [loafD x (st x)]) → Dtu K H' 5 (.ref a) (.tuple [dq (st x).s, (st x).shd]) → Off K (A.R nms) H H' → Q (.ref a) H')
def sp_Moulds_bears (K : PySem.W.Frag) (CO CM CN : Addr) : Sp := fun vs H Q E => ∃ (A : MAd) (nms : List Str) (st : Str → Mo) (v1 v2 : Rat) (lds : List PyData) (x : Str), vs = [.ref A.p, .str x] ∧ MouldsAt K CO CM H A nms st v1 v2 lds ∧ (x ∈ nms → (st x).Fit) ∧
  (x ∉ nms → Rf CN "NoMould" (.str x) H E) ∧ (x ∈ nms → ∀ a H', Same H H' → Dtu K H' 4 (.ref a) (st x).shd → Q (.ref a) H')
/-- a row's mould that is read: its name, room, drip -/
abbrev RM := Str × Int × Rat
def RmAt (K : PySem.W.Frag) (H : Hp) (v : V) (p : RM) : Prop := ∃ t dv, v = .ref t ∧ SqT K H t [.str p.1, .int p.2.1, dv] ∧ FQ K H dv p.2.2
/-- a mould that a row can have -/
structure RmOk (z : RM) : Prop where
  nm : Nm z.1
  r0 : 1 ≤ z.2.1
  r1 : z.2.1 ≤ 1000000
  d0 : 0 ≤ z.2.2
  d1 : z.2.2 < 1
  dd : z.2.2.den ≤ 12
def StOf (st : Str → Mo) (rs : List RM) : Prop := ∀ r ∈ rs, st r.1 = mo0 r.2.1 r.2.2
/-- the attributes of a row, as they are stored -/
def rfs (k m : Addr) : List (Str × V) := [("kettles", .ref k), ("moulds", .ref m)]
def sp_SameRow_init (C CR : Addr) : Sp := fun vs H Q _ => ∃ (x dx r dr k m : Addr), vs = [.ref x, .ref r] ∧ H x = some (.ins C dx []) ∧ H r = some (.ins CR dr (rfs k m)) ∧ ∀ H', Fr x H H' → (∃ o, H' x = some o ∧ Chg o) → Q .non H'
def sp_Moulds_init (K : PySem.W.Frag) (CO CM CR : Addr) : Sp := fun vs H Q _ => ∃ (p dx r dr k m : Addr) (xs : List V) (rs : List RM), vs = [.ref p, .ref r] ∧ H p = some (.ins CO dx []) ∧ H r = some (.ins CR dr (rfs k m)) ∧ SqT K H m xs ∧ xs.length = rs.length ∧ (∀ (i : Nat) (v : V) (z : RM), xs[i]? = some v → rs[i]? = some z → RmAt K H v z) ∧ (rs.map (·.1)).Nodup ∧ rs.length ≤ 1000 ∧
  ∀ A st H', A.p = p → MouldsAt K CO CM H' A (rs.map (·.1)) st 0 0 [] → StOf st rs → Off K (· = p) H H' → (∀ a, A.R (rs.map (·.1)) a → a = p ∨ Nw H a) → Nw H A.t → Q .non H'
/-! the law's own book of moulds -/
structure LAd where
  m : Addr
  rm : Addr
  dp : Addr
  sg : Addr
  wt : Addr
  dr : Addr
  lv : Addr
  s : Str → Addr
  /-- the order of its words: as a copy has them -/
  o : Bool
def LAd.R (A : LAd) (nms : List Str) : Addr → Prop := fun a => a = A.m ∨ a = A.sg ∨ a = A.wt ∨ a = A.dr ∨ a = A.lv ∨ ∃ x ∈ nms, a = A.s x
/-- how much of the sugar that was poured is in it -/
def Mo.left (m : Mo) : Rat := if m.cur = true then 1 - m.drip else 1
def mkv (A : LAd) (vv : V) : List (Key × V) := match A.o with
  | false => [(kN "room", .ref A.rm), (kN "drip", .ref A.dp), (kN "sugar", .ref A.sg), (kN "water", .ref A.wt), (kN "dry", .ref A.dr), (kN "vat", vv), (kN "loaves", .ref A.lv)]
  | true => [(kN "room", .ref A.rm), (kN "drip", .ref A.dp), (kN "water", .ref A.wt), (kN "dry", .ref A.dr), (kN "sugar", .ref A.sg), (kN "vat", vv), (kN "loaves", .ref A.lv)]
/-- the sugar of one mould, by strikes -/
def SugAt (K : PySem.W.Frag) (H : Hp) (a : Addr) (m : Mo) : Prop := ∃ f : Int → V, H a = some (.dK (byK kI m.ks f)) ∧ ∀ k ∈ m.ks, FQ K H (f k) (m.q k * m.left)
structure LawAt (K : PySem.W.Frag) (H : Hp) (A : LAd) (nms : List Str) (st : Str → Mo) (vs vw : Rat) (lds : List PyData) : Prop where
  m : ∃ vv, H A.m = some (.dK (mkv A vv)) ∧ JQ K H vv vs vw
  rm : ∃ f, Rd H A.rm (.dK (byK kN nms f)) ∧ ∀ x ∈ nms, FQ K H (f x) ((st x).room : Rat)
  dp : ∃ f, Rd H A.dp (.dK (byK kN nms f)) ∧ ∀ x ∈ nms, FQ K H (f x) (st x).drip
  sg : H A.sg = some (.dK (byK kN nms fun x => .ref (A.s x)))
  sx : ∀ x ∈ nms, SugAt K H (A.s x) (st x)
  wt : ∃ f, H A.wt = some (.dK (byK kN nms f)) ∧ ∀ x ∈ nms, FQ K H (f x) (st x).w
  dr : H A.dr = some (.dK (byK kN nms fun x => .bl (st x).cur))
  lv : ∃ lvs, H A.lv = some (.lst lvs) ∧ lvs.length ≤ 50000 ∧ DtuAll K H 5 lvs lds
  si : ∀ x ∈ nms, ∀ y ∈ nms, A.s x = A.s y → x = y
  nd : [A.m, A.rm, A.dp, A.sg, A.wt, A.dr].Nodup
  sn : ∀ x ∈ nms, A.s x ∉ [A.m, A.rm, A.dp, A.sg, A.wt, A.dr]
  ln : nms.length ≤ 50000
section
variable {K : PySem.W.Frag} {H H' : Hp} {A : LAd} {nms : List Str} {st st' : Str → Mo} {vs vw : Rat} {lds : List PyData} {R : Addr → Prop}
theorem SugAt.off {a : Addr} {m : Mo} (h : SugAt K H a m) (o : Off K R H H') (n : ¬ R a) : SugAt K H' a m := by
  obtain ⟨f, h1, h2⟩ := h
  exact ⟨f, o.dK n h1, fun k hk => (h2 k hk).tk o.tk⟩
theorem LawAt.off (h : LawAt K H A nms st vs vw lds) (o : Off K R H H') (n : ∀ a, A.R nms a → ¬ R a) (n1 : ¬ R A.rm) (n2 : ¬ R A.dp) : LawAt K H' A nms st vs vw lds := by
  obtain ⟨⟨vv, h1, h2⟩, ⟨f, h3, h4⟩, ⟨g, h5, h6⟩, h7, h8, ⟨w, h9, h10⟩, h11, ⟨l, h12, h13, h14⟩, si, nd, sn, ln⟩ := h
  exact ⟨⟨vv, o.dK (n _ (.inl rfl)) h1, h2.tk o.tk⟩, ⟨f, o.rd n1 h3 (fun _ z => by cases z), fun x hx => (h4 x hx).tk o.tk⟩, ⟨g, o.rd n2 h5 (fun _ z => by cases z), fun x hx => (h6 x hx).tk o.tk⟩, o.dK (n _ (.inr (.inl rfl))) h7, fun x hx => (h8 x hx).off o (n _ (.inr (.inr (.inr (.inr (.inr ⟨x, hx, rfl⟩)))))), ⟨w, o.dK (n _ (.inr (.inr (.inl rfl)))) h9, fun x hx => (h10 x hx).tk o.tk⟩, o.dK (n _ (.inr (.inr (.inr (.inl rfl))))) h11, ⟨l, o.lst (n _ (.inr (.inr (.inr (.inr (.inl rfl)))))) h12, h13, h14.tk o.tk⟩, si, nd, sn, ln⟩
theorem LawAt.rebuild (h : LawAt K H A nms st vs vw lds) {x : Str} (hx : x ∈ nms) {m : Mo} {vs2 vw2 : Rat} (o : Off K (fun a => a = A.s x ∨ a = A.wt ∨ a = A.dr ∨ a = A.m) H H') (hm : ∃ vv, H' A.m = some (.dK (mkv A vv)) ∧ JQ K H' vv vs2 vw2) (hs : SugAt K H' (A.s x) m)
    (hw : ∃ f, H' A.wt = some (.dK (byK kN nms f)) ∧ ∀ y ∈ nms, FQ K H' (f y) (set1 st x m y).w) (hd : H' A.dr = some (.dK (byK kN nms fun y => .bl (set1 st x m y).cur))) (e1 : m.room = (st x).room) (e2 : m.drip = (st x).drip) : LawAt K H' A nms (set1 st x m) vs2 vw2 lds := by
  obtain ⟨⟨vv, h1, h2⟩, ⟨f, h3, h4⟩, ⟨g, h5, h6⟩, h7, h8, ⟨w, h9, h10⟩, h11, ⟨l, h12, h13, h14⟩, si, nd, sn, ln⟩ := h
  have nx := sn x hx
  simp only [List.mem_cons, List.not_mem_nil, or_false, not_or] at nx
  simp only [List.nodup_cons, List.mem_cons, List.not_mem_nil, or_false, not_or, List.nodup_nil, and_true, not_false_iff] at nd
  have nd0 := nd
  obtain ⟨⟨a1, a2, a3, a4, a5⟩, ⟨b1, b2, b3, b4⟩, ⟨c1, c2, c3⟩, ⟨d1, d2⟩, e5⟩ := nd
  obtain ⟨x1, x2, x3, x4, x5, x6⟩ := nx
  have ro : ∀ y, (set1 st x m y).room = (st y).room := fun y => by
    by_cases e : y = x
    · rw [e, set1_same, e1]
    · rw [set1_ne e]
  have di : ∀ y, (set1 st x m y).drip = (st y).drip := fun y => by
    by_cases e : y = x
    · rw [e, set1_same, e2]
    · rw [set1_ne e]
  refine ⟨hm, ⟨f, o.rd (fun z => ?_) h3 (fun _ z => by cases z), fun y hy => by rw [ro]; exact (h4 y hy).tk o.tk⟩, ⟨g, o.rd (fun z => ?_) h5 (fun _ z => by cases z), fun y hy => by rw [di]; exact (h6 y hy).tk o.tk⟩, o.dK (fun z => ?_) h7, fun y hy => ?_, hw, hd, ⟨l, o.lst (fun z => ?_) h12, h13, h14.tk o.tk⟩, si, by
    simp only [List.nodup_cons, List.mem_cons, List.not_mem_nil, or_false, not_or, List.nodup_nil, and_true, not_false_iff]
    exact nd0, sn, ln⟩
  · rcases z with z | z | z | z
    · exact x2 z.symm
    · exact b3 z
    · exact b4 z
    · exact a1 z.symm
  · rcases z with z | z | z | z
    · exact x3 z.symm
    · exact c2 z
    · exact c3 z
    · exact a2 z.symm
  · rcases z with z | z | z | z
    · exact x4 z.symm
    · exact d1 z
    · exact d2 z
    · exact a3 z.symm
  · by_cases e : y = x
    · subst e
      rw [set1_same]
      exact hs
    · rw [set1_ne e]
      have ny := sn y hy
      simp only [List.mem_cons, List.not_mem_nil, or_false, not_or] at ny
      refine (h8 y hy).off o (fun z => ?_)
      rcases z with z | z | z | z
      · exact e (si y hy x hx z)
      · exact ny.2.2.2.2.1 z
      · exact ny.2.2.2.2.2 z
      · exact ny.1 z
  · obtain ⟨fx, k1, _⟩ := h8 x hx
    rcases z with z | z | z | z
    · rw [z, k1] at h12; cases h12
    · rw [z, h9] at h12; cases h12
    · rw [z, h11] at h12; cases h12
    · rw [z, h1] at h12; cases h12
end
section
variable {H : Hp} {A : LAd} {vv : V}
end
def sp_l_new (K : PySem.W.Frag) (CR : Addr) : Sp := fun vs H Q _ => ∃ (r dr k m : Addr) (xs : List V) (rs : List RM), vs = [.ref r] ∧ H r = some (.ins CR dr (rfs k m)) ∧ SqT K H m xs ∧ xs.length = rs.length ∧ (∀ (i : Nat) (v : V) (z : RM), xs[i]? = some v → rs[i]? = some z → RmAt K H v z) ∧ (rs.map (·.1)).Nodup ∧ rs.length ≤ 1000 ∧
  ∀ A st H', LawAt K H' A (rs.map (·.1)) st 0 0 [] → (∃ kvs, H' A.rm = some (.dK kvs)) → StOf st rs → Off K (fun _ => False) H H' → (∀ a, A.R (rs.map (·.1)) a → Nw H a) → Nw H A.rm → Nw H A.dp → Q (.ref A.m) H'
def sp_l_inside (K : PySem.W.Frag) : Sp := fun vs H Q _ => ∃ (A : LAd) (nms : List Str) (st : Str → Mo) (v1 v2 : Rat) (lds : List PyData) (x : Str), vs = [.ref A.m, .str x] ∧ LawAt K H A nms st v1 v2 lds ∧ x ∈ nms ∧ AddOk ((st x).ks.map fun k => (st x).q k * (st x).left) ∧ (∀ k ∈ (st x).ks, Big ((st x).q k * (st x).left)) ∧
  ∀ a H', Same H H' → JuQ K H' a ((st x).tot * (st x).left) (st x).w → Q (.ref a) H'
/-- what the law reckons with fits, and is what the program holds -/
structure Mo.Fit2 (m : Mo) : Prop extends m.Fit where
  add2 : AddOk (m.ks.map fun k => m.q k * m.left)
  big2 : ∀ k ∈ m.ks, Big (m.q k * m.left)
  bt : Big (m.tot * m.left)
  lf : m.left ≠ 0
  stay : Big (1 - m.drip)
  pos : m.ks ≠ [] → 0 < m.tot * m.left
  sum : m.s = m.tot * m.left
def sp_l_bears (K : PySem.W.Frag) : Sp := fun vs H Q _ => ∃ (A : LAd) (nms : List Str) (st : Str → Mo) (v1 v2 : Rat) (lds : List PyData) (x : Str), vs = [.ref A.m, .str x] ∧ LawAt K H A nms st v1 v2 lds ∧ x ∈ nms ∧ (st x).Fit2 ∧ ∀ a H', Same H H' → Dtu K H' 4 (.ref a) (st x).shd → Q (.ref a) H'
def refD (nm : Str) (x : Str) : PyData := .tuple [.str "refused", .str nm, .str x]
def sp_l_drain (K : PySem.W.Frag) : Sp := fun vs H Q _ => ∃ (A : LAd) (nms : List Str) (st : Str → Mo) (v1 v2 : Rat) (lds : List PyData) (x : Str), vs = [.ref A.m, .str x] ∧ LawAt K H A nms st v1 v2 lds ∧ PyData.canLay0 (.str x) = true ∧ (x ∈ nms → (st x).Fit2) ∧ Big v1 ∧ Big v2 ∧
  (x ∉ nms → ∀ a H', Same H H' → Dtu K H' 3 (.ref a) (refD "NoMould" x) → Q (.ref a) H') ∧ (x ∈ nms → (st x).ks = [] → ∀ a H', Same H H' → Dtu K H' 3 (.ref a) (refD "Empty" x) → Q (.ref a) H') ∧ (x ∈ nms → (st x).ks ≠ [] → (st x).cur = true → ∀ a H', Same H H' → Dtu K H' 3 (.ref a) (refD "Cured" x) → Q (.ref a) H') ∧
  (x ∈ nms → (st x).ks ≠ [] → (st x).cur = false → ∀ a H', LawAt K H' A nms (set1 st x (st x).drained) (v1 + (st x).s * (st x).drip) (v2 + (st x).w) lds → JuQ K H' a ((st x).s * (st x).drip) (st x).w → Off K (A.R nms) H H' → Q (.ref a) H')
def sp_l_knock (K : PySem.W.Frag) : Sp := fun vs H Q _ => ∃ (A : LAd) (nms : List Str) (st : Str → Mo) (v1 v2 : Rat) (lds : List PyData) (x : Str), vs = [.ref A.m, .str x] ∧ LawAt K H A nms st v1 v2 lds ∧ PyData.canLay0 (.str x) = true ∧ (x ∈ nms → (st x).Fit2) ∧ (x ∈ nms → (st x).cur = true → (st x).w = 0) ∧ lds.length < 50000 ∧
  (x ∉ nms → ∀ a H', Same H H' → Dtu K H' 3 (.ref a) (refD "NoMould" x) → Q (.ref a) H') ∧ (x ∈ nms → (st x).ks = [] → ∀ a H', Same H H' → Dtu K H' 3 (.ref a) (refD "Empty" x) → Q (.ref a) H') ∧ (x ∈ nms → (st x).ks ≠ [] → (st x).cur = false → ∀ a H', Same H H' → Dtu K H' 3 (.ref a) (refD "NotCured" x) → Q (.ref a) H') ∧
  (x ∈ nms → (st x).ks ≠ [] → (st x).cur = true → ∀ a g H', H g = none → LawAt K H' { A with s := set1 A.s x g } nms (set1 st x (st x).cleared) v1 v2 (lds ++ [loafD x (st x)]) → Dtu K H' 5 (.ref a) (.tuple [dq (st x).s, (st x).shd]) → Off K (A.R nms) H H' → Q (.ref a) H')
/-! the program's moulds beside the law's book, the box of draws: where each stands -/
def Dm (A : MAd) (B : LAd) (b : Addr) (nms : List Str) (a : Addr) : Prop := A.R nms a ∨ a = A.t ∨ B.R nms a ∨ a = B.rm ∨ a = B.dp ∨ a = b
structure W2 (K : PySem.W.Frag) (CO CM : Addr) (H0 H : Hp) (b : Addr) (n : Nat) (A : MAd) (B : LAd) (nms : List Str) (st stL : Str → Mo) (v1 v2 u1 u2 : Rat) (lds ldt : List PyData) : Prop where
  mo : MouldsAt K CO CM H A nms st v1 v2 lds
  la : LawAt K H B nms stL u1 u2 ldt
  bx : BoxAt H b n
  rm : ∃ kvs, H B.rm = some (.dK kvs)
  oH : Off K (fun _ => False) H0 H
  nw : ∀ a, Dm A B b nms a → Nw H0 a
  d1 : ∀ a, A.R nms a → ¬ B.R nms a ∧ a ≠ B.rm ∧ a ≠ B.dp ∧ a ≠ b
  d2 : ¬ B.R nms A.t ∧ A.t ≠ b ∧ A.t ≠ B.rm
  d3 : ∀ a, B.R nms a → a ≠ b
  d4 : B.rm ≠ b ∧ B.dp ≠ b
section
variable {K : PySem.W.Frag} {CO CM : Addr} {H0 H H' : Hp} {b : Addr} {n n' : Nat} {A : MAd} {B : LAd} {nms : List Str} {st stL st' : Str → Mo} {v1 v2 u1 u2 w1 w2 : Rat} {lds ldt ld' : List PyData} {R : Addr → Prop}
theorem LawAt.nrm (h : LawAt K H B nms st v1 v2 lds) : ¬ B.R nms B.rm ∧ ¬ B.R nms B.dp := by
  obtain ⟨_, ⟨f, h3, _⟩, ⟨g, h5, _⟩, _, _, _, _, ⟨l, h12, _⟩, _, nd, sn, _⟩ := h
  simp only [List.nodup_cons, List.mem_cons, List.not_mem_nil, or_false, not_or, List.nodup_nil, and_true, not_false_iff] at nd
  obtain ⟨⟨a1, a2, a3, a4, a5⟩, ⟨b1, b2, b3, b4⟩, ⟨c1, c2, c3⟩, ⟨d1, d2⟩, e5⟩ := nd
  have nl : ∀ {c : Addr} {kvs : List (Key × V)}, Rd H c (.dK kvs) → c ≠ B.lv := fun k z => by
    rcases k with k | ⟨ob, k⟩ <;> (rw [z, h12] at k; cases k)
  constructor
  · intro z
    rcases z with z | z | z | z | z | ⟨x, hx, z⟩
    · exact a1 z.symm
    · exact b2 z
    · exact b3 z
    · exact b4 z
    · exact nl h3 z
    · exact sn x hx (by rw [← z]; simp)
  · intro z
    rcases z with z | z | z | z | z | ⟨x, hx, z⟩
    · exact a2 z.symm
    · exact c1 z
    · exact c2 z
    · exact c3 z
    · exact nl h5 z
    · exact sn x hx (by rw [← z]; simp)
theorem W2.prog (h : W2 K CO CM H0 H b n A B nms st stL v1 v2 u1 u2 lds ldt) (o : Off K (A.R nms) H H') (m : MouldsAt K CO CM H' A nms st' w1 w2 ld') : W2 K CO CM H0 H' b n A B nms st' stL w1 w2 u1 u2 ld' ldt := by
  obtain ⟨kvs, e⟩ := h.rm
  exact ⟨m, h.la.off o (fun a r z => (h.d1 a z).1 r) (fun z => (h.d1 _ z).2.1 rfl) (fun z => (h.d1 _ z).2.2.1 rfl), o.boxAt (fun z => (h.d1 _ z).2.2.2 rfl) h.bx, ⟨kvs, o.dK (fun z => (h.d1 _ z).2.1 rfl) e⟩, h.oH.trans o (fun a r => .inr (h.nw a (.inl r))), h.nw, h.d1, h.d2, h.d3, h.d4⟩
theorem W2.law (h : W2 K CO CM H0 H b n A B nms st stL v1 v2 u1 u2 lds ldt) (o : Off K (B.R nms) H H') (l : LawAt K H' B nms st' w1 w2 ld') : W2 K CO CM H0 H' b n A B nms st st' v1 v2 w1 w2 lds ld' := by
  obtain ⟨kvs, e⟩ := h.rm
  exact ⟨h.mo.off o (fun a r => (h.d1 a r).1) h.d2.1, l, o.boxAt (fun z => h.d3 _ z rfl) h.bx, ⟨kvs, o.dK h.la.nrm.1 e⟩, h.oH.trans o (fun a r => .inr (h.nw a (.inr (.inr (.inl r))))), h.nw, h.d1, h.d2, h.d3, h.d4⟩
end
/-- a juice with sugar -/
structure JuOk (s w : Rat) : Prop where
  s0 : 0 < s
  s1 : s ≤ 1000000
  w0 : 0 ≤ w
  w1 : w ≤ 1000000
  sd : Dv 960 s
  wd : Dv 413 w
end KR
/-! ### deeds on moulds: a share that can be drawn, a < b <= c <= d tested -/
namespace KR
open PySem PySem.Spec PyProof.Rows L2
section
variable {X : Cx} {a b c d : Expr} {ta tb tc td : TE} {pos : Pos}
theorem pt_chain3 {op op' op2 : CmpOp} {r r' r2 : R2} (ho : OpR X (compareOp op) r) (ho' : OpR X (compareOp op') r') (ho2 : OpR X (compareOp op2) r2) (ha : PE X a ta) (hb : PE X b tb) (hc : PE X c tc) (hd : PE X d td)
    (hm : lastMarks [op, op', op2] [b, c, d] = false := by with_unfolding_all rfl) : PT X (.Compare a [op, op', op2] [b, c, d] pos) (tTest (tChain3 r r' r2 ta tb tc td)) := by
  refine ⟨fun pins s σ H Q I h => ?_⟩
  refine isTrue_chain (thn (ha.run pins s σ H _ I h) fun v s1 ⟨x, H1, I1, r1, q1⟩ => test_link (thn (hb.run pins s1 σ H1 _ I1 q1) fun u s2 ⟨y, H2, I2, r2', q2⟩ => thn (ho pins s2 σ H2 x y v u _ I2 r1 r2' q2) fun e s3 ⟨z, H3, I3, r3, k, ez, q3⟩ => ?_)) hm
  subst ez
  cases r3
  refine wpAny_truthy_bool ?_
  cases k with
  | false =>
    obtain ⟨k', e', q'⟩ := q3
    cases e'
    exact ite_ff ⟨H3, I3, q'⟩
  | true =>
    refine ite_tt (test_link (thn (hc.run pins s3 σ H3 _ I3 q3) fun u2 s4 ⟨y2, H4, I4, r4, q4⟩ => thn (ho' pins s4 σ H4 y y2 u u2 _ I4 r2' r4 q4) fun e2 s5 ⟨z2, H5, I5, r5, k2, ez2, q5⟩ => ?_))
    subst ez2
    cases r5
    refine wpAny_truthy_bool ?_
    cases k2 with
    | false =>
      obtain ⟨k', e', q'⟩ := q5
      cases e'
      exact ite_ff ⟨H5, I5, q'⟩
    | true =>
      refine ite_tt (test_last (thn (hd.run pins s5 σ H5 _ I5 q5) fun u3 s6 ⟨y3, H6, I6, r6, q6⟩ => thn (ho2 pins s6 σ H6 y2 y3 u2 u3 _ I6 r4 r6 q6) fun d' s7 ⟨z3, H7, I7, r7, k3, e3, q7⟩ => ?_))
      subst e3
      cases r7
      exact wpAny_truthy_bool ⟨H7, I7, q7⟩
end
theorem le_one_of {q : Rat} (h : q ≤ 1) : q.num ≤ (q.den : Int) := by
  rw [Rat.le_iff] at h
  have e1 : (1 : Rat).num = 1 := rfl
  have e2 : ((1 : Rat).den : Int) = 1 := rfl
  rw [e1, e2] at h
  omega
/-- a share that can be drawn -/
def ShOk (t : Rat) : Prop := 0 < t.num ∧ t.num ≤ (t.den : Int) ∧ (t.den : Int) ≤ 12
/-- a.update(b): dicts -/
def rUpdD : V → List V → Hp → VK → Prop := fun x vs H Q => ∃ (a b : Addr) (kvs more : List (Key × V)), x = .ref a ∧ vs = [.ref b] ∧ H a = some (.dK kvs) ∧ H b = some (.dK more) ∧ a ≠ b ∧ kvs.length + more.length ≤ sizeLine ∧ Q .non (upd H a (.dK (mergeK kvs more)))
def PoursAt (K : PySem.W.Frag) (H : Hp) (pvs : List V) (ps : List Pour) : Prop := pvs.length = ps.length ∧ ∀ (i : Nat) (v : V) (p : Pour), pvs[i]? = some v → ps[i]? = some p → PourAt K H v p
/-- one pour in the law's book -/
def lpour (k : Int) (S : Str → Mo) (p : Pour) : Str → Mo := set1 S p.1 (((S p.1).poured ((S p.1).s + p.2.1) ((S p.1).w + p.2.2)).bear k p.2.1)
def lfold (st : Str → Mo) (k : Int) (ps : List Pour) : Str → Mo := ps.foldl (lpour k) st
/-- what the law reckons with in a filling -/
structure LFit (m : Mo) : Prop where
  add : AddOk (m.ks.map fun k => m.q k * m.left)
  big : ∀ k ∈ m.ks, Big (m.q k * m.left)
  s : Big m.s
  w : Big m.w
  sw : Big (m.s + m.w)
  len : m.ks.length < 1000
  room : Big (m.room : Rat)
  sum : m.s = m.tot * m.left
end KR
/-! ### a method that may raise, called within a try -/
namespace KR
open PySem PySem.Spec PyProof.Rows L2
section
variable {X : Cx} {CX : CXT} {k : Nat} {f C : Addr} {fd : FuncData} {ps : List Str} {sp : Sp} {E : L2.St → XK} {m : Str} {pos apos : Pos} {e o : Expr} {es : List Expr} {ta : TE} {t : TA}
/-- o.m(..), its refusals handed on with the slots -/
def tMethX (C : Addr) (m : Str) (sp : Sp) (E : L2.St → XK) (ta : TE) (t : TA) : TE := fun σ H Q => ta σ H fun x H1 => ∃ a dx fs, x = .ref a ∧ H1 a = some (.ins C dx fs) ∧ fs.lookup m = none ∧ t σ H1 fun vs H2 => sp (x :: vs) H2 Q (E σ)
end
/-- a mould's name in a pour: one of the row's, or the stranger's -/
def PNm (nms : List Str) (x : Str) : Prop := x ∈ nms ∨ x = "qmould"
/-- a pour that the law makes -/
def PourOk (nms : List Str) (p : Pour) : Prop := PNm nms p.1 ∧ JuOk p.2.1 p.2.2
def pourD (p : Pour) : PyData := .tuple [.str p.1, dj p.2.1 p.2.2]
/-- a juice with sugar, of some more bottoms -/
structure JuOk2 (s w : Rat) : Prop where
  s0 : 0 < s
  s1 : s ≤ 1000000
  w0 : 0 ≤ w
  w1 : w ≤ 1000000
  sd : Dv 6720 s
  wd : Dv 24780 w
end KR
/-! ### things that stand apart: each has its own part of the heap -/
namespace KR
open PySem PySem.Spec PyProof.Rows L2
structure Th (K : PySem.W.Frag) where
  R : Addr → Prop
  ok : Hp → Prop
  off : ∀ {H H' : Hp} {R' : Addr → Prop}, ok H → Off K R' H H' → (∀ a, R a → ¬ R' a) → ok H'
  ex : ∀ {H : Hp} {a : Addr}, ok H → R a → ∃ o, H a = some o ∧ ∀ q, o ≠ .tbl q
structure Wd (K : PySem.W.Frag) (H0 H : Hp) (ts : List (Th K)) : Prop where
  ok : ∀ (i : Nat) (t : Th K), ts[i]? = some t → t.ok H
  dj : ∀ (i j : Nat) (s t : Th K), ts[i]? = some s → ts[j]? = some t → i ≠ j → ∀ a, s.R a → ¬ t.R a
  nw : ∀ (i : Nat) (t : Th K), ts[i]? = some t → ∀ a, t.R a → Nw H0 a
  oH : Off K (fun _ => False) H0 H
section
variable {K : PySem.W.Frag} {H0 H H' : Hp} {ts : List (Th K)} {t t' s : Th K} {R : Addr → Prop} {i j : Nat} {a b l : Addr}
theorem Wd.start (o : Off K (fun _ => False) H0 H) : Wd K H0 H [] := ⟨fun i t h => by simp at h, fun i j s t h => by simp at h, fun i t h => by simp at h, o⟩
/-- the box of draws -/
def tBox (K : PySem.W.Frag) (b : Addr) (n : Nat) : Th K := ⟨(· = b), fun H => BoxAt H b n, fun h o r => o.boxAt (r _ rfl) h, fun h r => by
  obtain ⟨xs, e⟩ := box_lst h
  exact ⟨_, by rw [r]; exact e, fun _ z => by cases z⟩⟩
/-- a list -/
def tLst (K : PySem.W.Frag) (l : Addr) (xs : List V) : Th K := ⟨(· = l), fun H => H l = some (.lst xs), fun h o r => o.lst (r _ rfl) h, fun h r => ⟨.lst xs, by rw [r]; exact h, fun _ z => by cases z⟩⟩
end
end KR
/-! ### kettles: what a kettle, the kettles of a row, a law's own book of them hold -/
namespace KR
open PySem PySem.Spec PyProof.Rows L2
theorem NOTH {K : PySem.W.Frag} {H : Hp} {C : Addr} (h : ∃ x y, ∀ H, SqT K H C [.ref x, .ref y] ∧ SqT K H x [.int 0, .int 1] ∧ SqT K H y [.int 0, .int 1]) : JuQ K H C 0 0 := by
  obtain ⟨x, y, k⟩ := h
  obtain ⟨h1, h2, h3⟩ := k H
  exact ⟨x, y, h1, h2, h3⟩
theorem at3 {x y z u : V} {xs : List V} : atI (x :: y :: z :: u :: xs) 3 = some u := atI_nat (j := 3) rfl
theorem at4 {x y z u v : V} {xs : List V} : atI (x :: y :: z :: u :: v :: xs) 4 = some v := atI_nat (j := 4) rfl
theorem at5 {x y z u v r : V} {xs : List V} : atI (x :: y :: z :: u :: v :: r :: xs) 5 = some r := atI_nat (j := 5) rfl
theorem same_none {H H' : Hp} {a : Addr} (s : Same H H') (h : H' a = none) : H a = none := by
  cases e : H a with
  | none => rfl
  | some o => rw [s _ _ e] at h; cases h
def refu (w : Str) (d : PyData) : PyData := .tuple [.str "refused", .str w, d]
def toldD (d : PyData) : PyData := .tuple [.str "told", d]
/-- a refusal's tuple as the law makes it -/
def RefAt (K : PySem.W.Frag) (H : Hp) (Q : VK) (w : Str) (d : PyData) : Prop := ∀ a H', Same H H' → Dtu K H' 4 (.ref a) (refu w d) → Q (.ref a) H'
structure Ke where
  room : Int
  fire : Int
  mark : Rat
  s : Rat
  w : Rat
  on : Bool
structure KS where
  st : Str → Ke
  hour : Nat
  gone : Rat
def ke0 (r f : Int) (u : Rat) : Ke := ⟨r, f, u, 0, 0, true⟩
def kf (room fire : Int) (mv jv : V) (on : Bool) : List (Str × V) := [("room", .int room), ("fire", .int fire), ("mark", mv), ("juice", jv), ("at_work", .bl on)]
def kfs (rv : V) (t : Addr) (h : Int) (bv : V) : List (Str × V) := [("_row", rv), ("_table", .ref t), ("_hour", .int h), ("_boiled", bv)]
structure KCell (K : PySem.W.Frag) (C : Addr) (H : Hp) (c : Addr) (k : Ke) : Prop where
  at_ : ∃ dx mv jv, H c = some (.ins C dx (kf k.room k.fire mv jv k.on)) ∧ FQ K H mv k.mark ∧ JQ K H jv k.s k.w
theorem KCell.off {K : PySem.W.Frag} {C : Addr} {H H' : Hp} {c : Addr} {k : Ke} {R : Addr → Prop} (h : KCell K C H c k) (o : Off K R H H') (nc : ¬ R c) : KCell K C H' c k := by
  obtain ⟨dx, mv, jv, h1, h2, h3⟩ := h
  exact ⟨dx, mv, jv, o.ins nc h1, h2.tk o.tk, h3.tk o.tk⟩
structure KAd where
  p : Addr
  t : Addr
  c : Str → Addr
def KAd.R (A : KAd) (nms : List Str) : Addr → Prop := fun a => a = A.p ∨ ∃ x ∈ nms, a = A.c x
structure KettlesAt (K : PySem.W.Frag) (CO CK : Addr) (H : Hp) (A : KAd) (nms : List Str) (S : KS) : Prop where
  p : ∃ dx rv bv, H A.p = some (.ins CO dx (kfs rv A.t S.hour bv)) ∧ FQ K H bv S.gone
  t : H A.t = some (.dK (byK kN nms fun x => .ref (A.c x)))
  cell : ∀ x ∈ nms, KCell K CK H (A.c x) (S.st x)
  ci : ∀ x ∈ nms, ∀ y ∈ nms, A.c x = A.c y → x = y
  cp : ∀ x ∈ nms, A.c x ≠ A.p
def KS.put (S : KS) (x : Str) (k : Ke) : KS := ⟨set1 S.st x k, S.hour, S.gone⟩
section
variable {K : PySem.W.Frag} {CO CK : Addr} {H H' : Hp} {A : KAd} {nms : List Str} {S : KS} {R : Addr → Prop}
theorem KettlesAt.off (h : KettlesAt K CO CK H A nms S) (o : Off K R H H') (n : ∀ a, A.R nms a → ¬ R a) (nt : ¬ R A.t) : KettlesAt K CO CK H' A nms S := by
  obtain ⟨⟨dx, rv, bv, h1, h2⟩, ht, hc, ci, cp⟩ := h
  exact ⟨⟨dx, rv, bv, o.ins (n _ (.inl rfl)) h1, h2.tk o.tk⟩, o.dK nt ht, fun x hx => (hc x hx).off o (n _ (.inr ⟨x, hx, rfl⟩)), ci, cp⟩
theorem KettlesAt.same (h : KettlesAt K CO CK H A nms S) (s : Same H H') : KettlesAt K CO CK H' A nms S := h.off (R := fun _ => False) (.same s) (fun _ _ => id) id
theorem KettlesAt.there (h : KettlesAt K CO CK H A nms S) {a : Addr} (r : A.R nms a) : ∃ o, H a = some o ∧ Chg o := by
  obtain ⟨⟨dx, rv, bv, h1, h2⟩, ht, hc, _⟩ := h
  rcases r with rfl | ⟨x, hx, rfl⟩
  · exact ⟨_, h1, .ins⟩
  · obtain ⟨dx, mv, jv, h1, _⟩ := hc x hx
    exact ⟨_, h1, .ins⟩
theorem KettlesAt.tc (h : KettlesAt K CO CK H A nms S) {x : Str} (hx : x ∈ nms) : A.t ≠ A.c x := fun z => by
  obtain ⟨dx, mv, jv, h1, _⟩ := h.cell x hx
  have t := h.t
  rw [z, h1] at t
  cases t
theorem KettlesAt.tp (h : KettlesAt K CO CK H A nms S) : A.t ≠ A.p := fun z => by
  obtain ⟨dx, rv, bv, h1, _⟩ := h.p
  have t := h.t
  rw [z, h1] at t
  cases t
/-- one kettle changed -/
theorem KettlesAt.set (h : KettlesAt K CO CK H A nms S) {x : Str} (hx : x ∈ nms) {k : Ke} (o : Off K (· = A.c x) H H') (hc : KCell K CK H' (A.c x) k) : KettlesAt K CO CK H' A nms (S.put x k) := by
  have nt := h.tc hx
  obtain ⟨⟨dx, rv, bv, h1, h2⟩, ht, hcs, ci, cp⟩ := h
  refine ⟨⟨dx, rv, bv, o.ins (fun z => cp x hx z.symm) h1, h2.tk o.tk⟩, o.dK nt ht, fun y hy => ?_, ci, cp⟩
  show KCell K CK H' (A.c y) (set1 S.st x k y)
  by_cases e : y = x
  · subst e
    rw [set1_same]
    exact hc
  · rw [set1_ne e]
    exact (hcs y hy).off o fun z => e (ci y hy x hx z)
end
def KQ (A : KAd) (nms : List Str) (a : Addr) : Prop := A.R nms a ∨ a = A.t
def tKe (K : PySem.W.Frag) (CO CK : Addr) (A : KAd) (nms : List Str) (S : KS) : Th K := ⟨KQ A nms, fun H => KettlesAt K CO CK H A nms S, fun h o r => h.off o (fun a z => r a (.inl z)) (r _ (.inr rfl)), fun {H a} h r => by
  rcases r with r | r
  · obtain ⟨o, e, c⟩ := h.there r
    exact ⟨o, e, c.b⟩
  · rw [r]; exact ⟨_, h.t, fun _ z => by cases z⟩⟩
/-! the law's own book of kettles -/
structure LKA where
  a : Addr
  r : Addr
  c : Str → Addr
def skv (h : Int) (gv : V) (r : Addr) : List (Key × V) := [(kN "hour", .int h), (kN "gone", gv), (kN "rows", .ref r)]
structure LRow (K : PySem.W.Frag) (H : Hp) (c : Addr) (k : Ke) : Prop where
  at_ : ∃ mv sv wv, H c = some (.lst [.int k.room, .int k.fire, mv, sv, wv, .bl k.on]) ∧ FQ K H mv k.mark ∧ FQ K H sv k.s ∧ FQ K H wv k.w
theorem LRow.off {K : PySem.W.Frag} {H H' : Hp} {c : Addr} {k : Ke} {R : Addr → Prop} (h : LRow K H c k) (o : Off K R H H') (nc : ¬ R c) : LRow K H' c k := by
  obtain ⟨mv, sv, wv, h1, h2, h3, h4⟩ := h
  exact ⟨mv, sv, wv, o.lst nc h1, h2.tk o.tk, h3.tk o.tk, h4.tk o.tk⟩
def LKA.R (B : LKA) (nms : List Str) : Addr → Prop := fun a => a = B.a ∨ ∃ x ∈ nms, a = B.c x
structure LKAt (K : PySem.W.Frag) (H : Hp) (B : LKA) (nms : List Str) (S : KS) : Prop where
  a : ∃ gv, H B.a = some (.dK (skv S.hour gv B.r)) ∧ FQ K H gv S.gone
  r : H B.r = some (.dK (byK kN nms fun x => .ref (B.c x)))
  row : ∀ x ∈ nms, LRow K H (B.c x) (S.st x)
  ci : ∀ x ∈ nms, ∀ y ∈ nms, B.c x = B.c y → x = y
  ar : B.a ≠ B.r
  ln : nms.length ≤ 1000
section
variable {K : PySem.W.Frag} {H H' : Hp} {B : LKA} {nms : List Str} {S : KS} {R : Addr → Prop}
theorem LKAt.off (h : LKAt K H B nms S) (o : Off K R H H') (n : ∀ a, B.R nms a → ¬ R a) (nr : ¬ R B.r) : LKAt K H' B nms S := by
  obtain ⟨⟨gv, h1, h2⟩, hr, hc, ci, ar, ln⟩ := h
  exact ⟨⟨gv, o.dK (n _ (.inl rfl)) h1, h2.tk o.tk⟩, o.dK nr hr, fun x hx => (hc x hx).off o (n _ (.inr ⟨x, hx, rfl⟩)), ci, ar, ln⟩
theorem LKAt.same (h : LKAt K H B nms S) (s : Same H H') : LKAt K H' B nms S := h.off (R := fun _ => False) (.same s) (fun _ _ => id) id
theorem LKAt.there (h : LKAt K H B nms S) {a : Addr} (r : B.R nms a) : ∃ o, H a = some o ∧ Chg o := by
  obtain ⟨⟨gv, h1, h2⟩, hr, hc, _⟩ := h
  rcases r with rfl | ⟨x, hx, rfl⟩
  · exact ⟨_, h1, .dK⟩
  · obtain ⟨mv, sv, wv, h1, _⟩ := hc x hx
    exact ⟨_, h1, .lst⟩
theorem LKAt.rc (h : LKAt K H B nms S) {x : Str} (hx : x ∈ nms) : B.r ≠ B.c x := fun z => by
  obtain ⟨mv, sv, wv, h1, _⟩ := h.row x hx
  have t := h.r
  rw [z, h1] at t
  cases t
theorem LKAt.ac (h : LKAt K H B nms S) {x : Str} (hx : x ∈ nms) : B.a ≠ B.c x := fun z => by
  obtain ⟨mv, sv, wv, h1, _⟩ := h.row x hx
  obtain ⟨gv, h2, _⟩ := h.a
  rw [z, h1] at h2
  cases h2
theorem LKAt.set (h : LKAt K H B nms S) {x : Str} (hx : x ∈ nms) {k : Ke} (o : Off K (· = B.c x) H H') (hc : LRow K H' (B.c x) k) : LKAt K H' B nms (S.put x k) := by
  have n1 := h.ac hx
  have n2 := h.rc hx
  obtain ⟨⟨gv, h1, h2⟩, hr, hcs, ci, ar, ln⟩ := h
  refine ⟨⟨gv, o.dK n1 h1, h2.tk o.tk⟩, o.dK n2 hr, fun y hy => ?_, ci, ar, ln⟩
  show LRow K H' (B.c y) (set1 S.st x k y)
  by_cases e : y = x
  · subst e
    rw [set1_same]
    exact hc
  · rw [set1_ne e]
    exact (hcs y hy).off o fun z => e (ci y hy x hx z)
end
def LKQ (B : LKA) (nms : List Str) (a : Addr) : Prop := B.R nms a ∨ a = B.r
def tLk (K : PySem.W.Frag) (B : LKA) (nms : List Str) (S : KS) : Th K := ⟨LKQ B nms, fun H => LKAt K H B nms S, fun h o r => h.off o (fun a z => r a (.inl z)) (r _ (.inr rfl)), fun {H a} h r => by
  rcases r with r | r
  · obtain ⟨o, e, c⟩ := h.there r
    exact ⟨o, e, c.b⟩
  · rw [r]; exact ⟨_, h.r, fun _ z => by cases z⟩⟩
/-! boiling -/
def kb (h : Nat) (k : Ke) : Ke := if k.on = true then { k with w := boil k.s k.w k.fire k.mark ((h : Int) : Rat) } else k
/-- what is reckoned with where one kettle boils -/
structure KBig (k : Ke) (h : Nat) : Prop where
  s : Big k.s
  w : Big k.w
  u : Big k.mark
  hb : Big ((h : Int) : Rat)
  l : Big (wat k.s k.mark)
  fh : Big ((k.fire : Rat) * ((h : Int) : Rat))
  d : Big (k.w - (k.fire : Rat) * ((h : Int) : Rat))
  b : Big (boil k.s k.w k.fire k.mark ((h : Int) : Rat))
  g : Big (k.w - boil k.s k.w k.fire k.mark ((h : Int) : Rat))
  f : k.fire.natAbs < 2 ^ 14
  u0 : k.mark ≠ 0
  h9 : h < 2 ^ 60
def sp_wboil (K : PySem.W.Frag) : Sp := fun vs H Q _ => ∃ (j mk hr : Addr) (f : Int) (s w u h : Rat), vs = [.ref j, .int f, .ref mk, .ref hr] ∧ JuQ K H j s w ∧ FrQ K H mk u ∧ FrQ K H hr h ∧ Big s ∧ Big w ∧ Big u ∧ Big h ∧ Big (wat s u) ∧ Big ((f : Rat) * h) ∧ Big (w - (f : Rat) * h) ∧ f.natAbs < 2 ^ 14 ∧ u ≠ 0 ∧
  ∀ z H', Same H H' → JuQ K H' z s (boil s w f u h) → Q (.ref z) H'
def sp_wready (K : PySem.W.Frag) : Sp := fun vs H Q _ => ∃ (j mk : Addr) (f : Int) (s w u : Rat), vs = [.ref j, .int f, .ref mk] ∧ JuQ K H j s w ∧ FrQ K H mk u ∧ Big s ∧ Big w ∧ Big u ∧ Big (wat s u) ∧ Big (w - wat s u) ∧ f.natAbs < 2 ^ 14 ∧ u ≠ 0 ∧
  ∀ v H', Same H H' → OQ K H' v (ready s w f u) → Q v H'
def sp_wstr (K : PySem.W.Frag) : Sp := fun vs H Q _ => ∃ (x : Addr) (s w : Rat), vs = [.ref x] ∧ JuQ K H x s w ∧ Big s ∧ Big w ∧ Big (s + w) ∧ ∀ v H', Same H H' → OQ K H' v (stren s w) → Q v H'
def sp_Kettle_init (K : PySem.W.Frag) (C : Addr) : Sp := fun vs H Q _ => ∃ (c dx : Addr) (r f : Int) (mv : V) (u : Rat), vs = [.ref c, .int r, .int f, mv] ∧ H c = some (.ins C dx []) ∧ FQ K H mv u ∧ ∀ H', KCell K C H' c (ke0 r f u) → Off K (· = c) H H' → Q .non H'
def sp_Kettle_boil (K : PySem.W.Frag) (C : Addr) : Sp := fun vs H Q _ => ∃ (c : Addr) (k : Ke) (h : Nat), vs = [.ref c, .int h] ∧ KCell K C H c k ∧ KBig k h ∧ ∀ a H', KCell K C H' c { k with w := boil k.s k.w k.fire k.mark ((h : Int) : Rat) } → FrQ K H' a (k.w - boil k.s k.w k.fire k.mark ((h : Int) : Rat)) → Off K (· = c) H H' → Q (.ref a) H'
def just (k : Ke) : Bool := decide (stren k.s k.w = some k.mark)
def sp_Kettle_at (K : PySem.W.Frag) (C : Addr) : Sp := fun vs H Q _ => ∃ (c : Addr) (k : Ke), vs = [.ref c] ∧ KCell K C H c k ∧ Big k.s ∧ Big k.w ∧ Big (k.s + k.w) ∧ ∀ H', Same H H' → Q (.bl (just k)) H'
def rdy (k : Ke) : Option Rat := ready k.s k.w (if k.on = true then k.fire else 0) k.mark
def sp_Kettle_hours (K : PySem.W.Frag) (C : Addr) : Sp := fun vs H Q _ => ∃ (c : Addr) (k : Ke), vs = [.ref c] ∧ KCell K C H c k ∧ Big k.s ∧ Big k.w ∧ Big k.mark ∧ Big (wat k.s k.mark) ∧ Big (k.w - wat k.s k.mark) ∧ k.fire.natAbs < 2 ^ 14 ∧ k.mark ≠ 0 ∧ ∀ v H', Same H H' → OQ K H' v (rdy k) → Q v H'
/-- a row's kettle that is read: its name, room, fire, mark -/
abbrev RK := Str × Int × Int × Rat
def RkAt (K : PySem.W.Frag) (H : Hp) (v : V) (p : RK) : Prop := ∃ t dv, v = .ref t ∧ SqT K H t [.str p.1, .int p.2.1, .int p.2.2.1, dv] ∧ FQ K H dv p.2.2.2
theorem RkAt.tk {K : PySem.W.Frag} {H H' : Hp} {v : V} {p : RK} (h : RkAt K H v p) (t : TK K H H') : RkAt K H' v p := by
  obtain ⟨a, j, e, h1, h2⟩ := h
  exact ⟨a, j, e, t _ _ h1, h2.tk t⟩
def KtOf (st : Str → Ke) (rs : List RK) : Prop := ∀ r ∈ rs, st r.1 = ke0 r.2.1 r.2.2.1 r.2.2.2
def sp_Kettles_init (K : PySem.W.Frag) (CO CK CR : Addr) : Sp := fun vs H Q _ => ∃ (p dx r dr k m : Addr) (xs : List V) (rs : List RK), vs = [.ref p, .ref r] ∧ H p = some (.ins CO dx []) ∧ H r = some (.ins CR dr (rfs k m)) ∧ SqT K H k xs ∧ xs.length = rs.length ∧ (∀ (i : Nat) (v : V) (z : RK), xs[i]? = some v → rs[i]? = some z → RkAt K H v z) ∧ (rs.map (·.1)).Nodup ∧ rs.length ≤ 1000 ∧
  ∀ A st H', A.p = p → KettlesAt K CO CK H' A (rs.map (·.1)) ⟨st, 0, 0⟩ → KtOf st rs → Off K (· = p) H H' → (∀ a, KQ A (rs.map (·.1)) a → a = p ∨ Nw H a) → Q .non H'
def sp_Kettles_named (K : PySem.W.Frag) (CO CK CN : Addr) : Sp := fun vs H Q E => ∃ (A : KAd) (nms : List Str) (S : KS) (x : Str), vs = [.ref A.p, .str x] ∧ KettlesAt K CO CK H A nms S ∧ (x ∉ nms → Rf CN "NoKettle" (.str x) H E) ∧ (x ∈ nms → Q (.ref (A.c x)) H)
/-- the water that goes off while all boil -/
def goff (h : Nat) (st : Str → Ke) (l : List Str) (g : Rat) : Rat := l.foldl (fun g x => g + ((st x).w - (kb h (st x)).w)) g
theorem goff_take {h : Nat} {st : Str → Ke} {l : List Str} {g : Rat} {i : Nat} {x : Str} (e : l[i]? = some x) : goff h st (l.take (i + 1)) g = goff h st (l.take i) g + ((st x).w - (kb h (st x)).w) := foldl_take (f := fun g x => g + ((st x).w - (kb h (st x)).w)) e
def KS.boil (S : KS) (nms : List Str) (h : Nat) : KS := ⟨fun x => kb h (S.st x), S.hour + h, goff h S.st nms S.gone⟩
def sp_Kettles_boil_on (K : PySem.W.Frag) (CO CK : Addr) : Sp := fun vs H Q _ => ∃ (A : KAd) (nms : List Str) (S : KS) (h : Nat), vs = [.ref A.p, .int h] ∧ KettlesAt K CO CK H A nms S ∧ nms.Nodup ∧ (∀ x ∈ nms, KBig (S.st x) h) ∧ (∀ i, i ≤ nms.length → Big (goff h S.st (nms.take i) S.gone)) ∧ ∀ H', KettlesAt K CO CK H' A nms (S.boil nms h) → Off K (A.R nms) H H' → Q .non H'
/-- juice that is poured in: what is reckoned -/
structure VBig (s w s' w' : Rat) : Prop where
  a : Big s
  b : Big w
  c : Big s'
  d : Big w'
  e : Big (s + s')
  f : Big (w + w')
  g : Big (s + s' + (w + w'))
def sp_Kettles_pour (K : PySem.W.Frag) (CO CK CN CR : Addr) : Sp := fun vs H Q E => ∃ (A : KAd) (nms : List Str) (S : KS) (x : Str) (j : Addr) (s w : Rat), vs = [.ref A.p, .str x, .ref j] ∧ KettlesAt K CO CK H A nms S ∧ JuQ K H j s w ∧ (x ∈ nms → VBig (S.st x).s (S.st x).w s w ∧ Big ((S.st x).room : Rat)) ∧
  (x ∉ nms → Rf CN "NoKettle" (.str x) H E) ∧ (x ∈ nms → ((S.st x).room : Rat) < (S.st x).s + s + ((S.st x).w + w) → Rf CR "NoRoom" (.str x) H E) ∧
  (x ∈ nms → ¬ ((S.st x).room : Rat) < (S.st x).s + s + ((S.st x).w + w) → ∀ H', KettlesAt K CO CK H' A nms (S.put x { S.st x with s := (S.st x).s + s, w := (S.st x).w + w }) → Off K (A.R nms) H H' → Q .non H')
def sp_Kettles_take (K : PySem.W.Frag) (CO CK CN : Addr) : Sp := fun vs H Q E => ∃ (A : KAd) (nms : List Str) (S : KS) (x : Str) (a : Addr) (t : Rat), vs = [.ref A.p, .str x, .ref a] ∧ KettlesAt K CO CK H A nms S ∧ x ∈ nms ∧ FrQ K H a t ∧ Big (S.st x).s ∧ Big (S.st x).w ∧ Big t ∧ Big (1 - t) ∧
  ∀ z H', KettlesAt K CO CK H' A nms (S.put x { S.st x with s := (S.st x).s * (1 - t), w := (S.st x).w * (1 - t) }) → JuQ K H' z ((S.st x).s * t) ((S.st x).w * t) → Off K (A.R nms) H H' → Q (.ref z) H'
def Ke.nil (k : Ke) : Prop := k.s = 0 ∧ k.w = 0
instance {k : Ke} : Decidable k.nil := by unfold Ke.nil; infer_instance
def Ke.out (k : Ke) (t : Rat) : Ke := { k with s := k.s * (1 - t), w := k.w * (1 - t) }
def Ke.inn (k : Ke) (s w : Rat) : Ke := { k with s := k.s + s, w := k.w + w }
def sp_Kettles_dip (K : PySem.W.Frag) (CO CK CN CS CE : Addr) : Sp := fun vs H Q E => ∃ (A : KAd) (nms : List Str) (S : KS) (x : Str) (a : Addr) (t : Rat), vs = [.ref A.p, .str x, .ref a] ∧ KettlesAt K CO CK H A nms S ∧ FrQ K H a t ∧ (x ∈ nms → Big (S.st x).s ∧ Big (S.st x).w) ∧ Big t ∧ Big (1 - t) ∧
  (x ∉ nms → Rf CN "NoKettle" (.str x) H E) ∧ (x ∈ nms → ¬ ShOk t → Rf CS "NoShare" (.ref a) H E) ∧ (x ∈ nms → ShOk t → (S.st x).nil → Rf CE "Empty" (.str x) H E) ∧
  (x ∈ nms → ShOk t → ¬ (S.st x).nil → ∀ z H', KettlesAt K CO CK H' A nms (S.put x ((S.st x).out t)) → JuQ K H' z ((S.st x).s * t) ((S.st x).w * t) → Off K (A.R nms) H H' → Q (.ref z) H')
def Ke.full (k : Ke) (s w : Rat) : Prop := (k.room : Rat) < k.s + s + (k.w + w)
instance {k : Ke} {s w : Rat} : Decidable (k.full s w) := by unfold Ke.full; infer_instance
def sp_Kettles_ladle (K : PySem.W.Frag) (CO CK CN CM CS CE CR : Addr) : Sp := fun vs H Q E => ∃ (A : KAd) (nms : List Str) (S : KS) (x y : Str) (a : Addr) (t : Rat), vs = [.ref A.p, .str x, .str y, .ref a] ∧ KettlesAt K CO CK H A nms S ∧ FrQ K H a t ∧ (x ∈ nms → y ∈ nms → Big (S.st x).s ∧ Big (S.st x).w ∧ VBig (S.st y).s (S.st y).w ((S.st x).s * t) ((S.st x).w * t) ∧ Big ((S.st y).room : Rat)) ∧ Big t ∧ Big (1 - t) ∧
  (x ∉ nms → Rf CN "NoKettle" (.str x) H E) ∧ (x ∈ nms → y ∉ nms → Rf CN "NoKettle" (.str y) H E) ∧ (x ∈ nms → y ∈ nms → x = y → Rf CM "Same" (.str x) H E) ∧ (x ∈ nms → y ∈ nms → x ≠ y → ¬ ShOk t → Rf CS "NoShare" (.ref a) H E) ∧ (x ∈ nms → y ∈ nms → x ≠ y → ShOk t → (S.st x).nil → Rf CE "Empty" (.str x) H E) ∧
  (x ∈ nms → y ∈ nms → x ≠ y → ShOk t → ¬ (S.st x).nil → (S.st y).full ((S.st x).s * t) ((S.st x).w * t) → ∀ H', Same H H' → Rf CR "NoRoom" (.str y) H' E) ∧
  (x ∈ nms → y ∈ nms → x ≠ y → ShOk t → ¬ (S.st x).nil → ¬ (S.st y).full ((S.st x).s * t) ((S.st x).w * t) → ∀ z H', KettlesAt K CO CK H' A nms ((S.put y ((S.st y).inn ((S.st x).s * t) ((S.st x).w * t))).put x ((S.st x).out t)) → JuQ K H' z ((S.st x).s * t) ((S.st x).w * t) → Off K (A.R nms) H H' → Q (.ref z) H')
/-- what was in the kettle that is poured into, by a skimming -/
def Ke.bef (S : KS) (x y : Str) (t : Rat) : Ke := if x = y then (S.st x).out t else S.st y
def sp_Kettles_skim (K : PySem.W.Frag) (CO CK CN CS CE CR : Addr) : Sp := fun vs H Q E => ∃ (A : KAd) (nms : List Str) (S : KS) (x y : Str) (a b : Addr) (t g : Rat), vs = [.ref A.p, .str x, .ref a, .ref b, .str y] ∧ KettlesAt K CO CK H A nms S ∧ FrQ K H a t ∧ FrQ K H b g ∧
  (x ∈ nms → y ∈ nms → Big (S.st x).s ∧ Big (S.st x).w ∧ Big ((S.st x).s * t) ∧ Big ((S.st x).w * t) ∧ VBig (Ke.bef S x y t).s (Ke.bef S x y t).w ((S.st x).s * t * g) ((S.st x).w * t * g) ∧ Big ((S.st y).room : Rat)) ∧ Big t ∧ Big (1 - t) ∧ Big g ∧ Big (1 - g) ∧
  (x ∉ nms → Rf CN "NoKettle" (.str x) H E) ∧ (x ∈ nms → y ∉ nms → Rf CN "NoKettle" (.str y) H E) ∧ (x ∈ nms → y ∈ nms → ¬ ShOk t → Rf CS "NoShare" (.ref a) H E) ∧ (x ∈ nms → y ∈ nms → ShOk t → g ≠ 0 → ¬ ShOk g → Rf CS "NoShare" (.ref b) H E) ∧ (x ∈ nms → y ∈ nms → ShOk t → (g = 0 ∨ ShOk g) → (S.st x).nil → Rf CE "Empty" (.str x) H E) ∧
  (x ∈ nms → y ∈ nms → ShOk t → (g = 0 ∨ ShOk g) → ¬ (S.st x).nil → (Ke.bef S x y t).full ((S.st x).s * t * g) ((S.st x).w * t * g) → ∀ H', Same H H' → Rf CR "NoRoom" (.str y) H' E) ∧
  (x ∈ nms → y ∈ nms → ShOk t → (g = 0 ∨ ShOk g) → ¬ (S.st x).nil → ¬ (Ke.bef S x y t).full ((S.st x).s * t * g) ((S.st x).w * t * g) → ∀ z H', KettlesAt K CO CK H' A nms ((S.put x ((S.st x).out t)).put y ((Ke.bef S x y t).inn ((S.st x).s * t * g) ((S.st x).w * t * g))) → (∃ p q, SqT K H' z [.ref p, .ref q] ∧ JuQ K H' p ((S.st x).s * t * g) ((S.st x).w * t * g) ∧ JuQ K H' q ((S.st x).s * t * (1 - g)) ((S.st x).w * t * (1 - g))) → Off K (A.R nms) H H' → Q (.ref z) H')
def sp_Kettles_work (K : PySem.W.Frag) (CO CK CN CB : Addr) (nm : Str) (b : Bool) : Sp := fun vs H Q E => ∃ (A : KAd) (nms : List Str) (S : KS) (x : Str), vs = [.ref A.p, .str x] ∧ KettlesAt K CO CK H A nms S ∧ (x ∉ nms → Rf CN "NoKettle" (.str x) H E) ∧ (x ∈ nms → (S.st x).on = b → Rf CB nm (.str x) H E) ∧ (x ∈ nms → (S.st x).on ≠ b → ∀ H', KettlesAt K CO CK H' A nms (S.put x { S.st x with on := b }) → Off K (A.R nms) H H' → Q .non H')
def sp_Kettles_hour (K : PySem.W.Frag) (CO CK : Addr) : Sp := fun vs H Q _ => ∃ (A : KAd) (nms : List Str) (S : KS), vs = [.ref A.p] ∧ KettlesAt K CO CK H A nms S ∧ Q (.int S.hour) H
def sp_Kettles_names (K : PySem.W.Frag) (CO CK : Addr) : Sp := fun vs H Q _ => ∃ (A : KAd) (nms : List Str) (S : KS), vs = [.ref A.p] ∧ KettlesAt K CO CK H A nms S ∧ ∀ a H', Same H H' → H a = none → H' a = some (.lst (nms.map V.str)) → Q (.ref a) H'
def sp_Kettles_gone (K : PySem.W.Frag) (CO CK : Addr) : Sp := fun vs H Q _ => ∃ (A : KAd) (nms : List Str) (S : KS), vs = [.ref A.p] ∧ KettlesAt K CO CK H A nms S ∧ ∀ a, FrQ K H a S.gone → Q (.ref a) H
def sp_Kettles_juice (K : PySem.W.Frag) (CO CK CN : Addr) : Sp := fun vs H Q E => ∃ (A : KAd) (nms : List Str) (S : KS) (x : Str), vs = [.ref A.p, .str x] ∧ KettlesAt K CO CK H A nms S ∧ (x ∉ nms → Rf CN "NoKettle" (.str x) H E) ∧ (x ∈ nms → ∀ a, JuQ K H a (S.st x).s (S.st x).w → Q (.ref a) H)
def sp_Kettles_inwork (K : PySem.W.Frag) (CO CK CN : Addr) : Sp := fun vs H Q E => ∃ (A : KAd) (nms : List Str) (S : KS) (x : Str), vs = [.ref A.p, .str x] ∧ KettlesAt K CO CK H A nms S ∧ (x ∉ nms → Rf CN "NoKettle" (.str x) H E) ∧ (x ∈ nms → Q (.bl (S.st x).on) H)
def sp_Kettles_isready (K : PySem.W.Frag) (CO CK CN : Addr) : Sp := fun vs H Q E => ∃ (A : KAd) (nms : List Str) (S : KS) (x : Str), vs = [.ref A.p, .str x] ∧ KettlesAt K CO CK H A nms S ∧ (x ∈ nms → Big (S.st x).s ∧ Big (S.st x).w ∧ Big ((S.st x).s + (S.st x).w)) ∧ (x ∉ nms → Rf CN "NoKettle" (.str x) H E) ∧ (x ∈ nms → ∀ H', Same H H' → Q (.bl (just (S.st x))) H')
/-- the hour from which on a kettle is ready -/
def KS.when (S : KS) (x : Str) : Option Rat := (rdy (S.st x)).map fun q => ((S.hour : Int) : Rat) + q
structure RBig (k : Ke) : Prop where
  s : Big k.s
  w : Big k.w
  u : Big k.mark
  l : Big (wat k.s k.mark)
  d : Big (k.w - wat k.s k.mark)
  f : k.fire.natAbs < 2 ^ 14
  u0 : k.mark ≠ 0
  r : ∀ q, rdy k = some q → Big q
def sp_Kettles_readyat (K : PySem.W.Frag) (CO CK CN : Addr) : Sp := fun vs H Q E => ∃ (A : KAd) (nms : List Str) (S : KS) (x : Str), vs = [.ref A.p, .str x] ∧ KettlesAt K CO CK H A nms S ∧ (x ∈ nms → RBig (S.st x)) ∧ S.hour < 2 ^ 60 ∧ (x ∉ nms → Rf CN "NoKettle" (.str x) H E) ∧ (x ∈ nms → ∀ v H', Same H H' → OQ K H' v (S.when x) → Q v H')
end KR
/-! ### deeds on kettles as functions of what is kept; bounds of all numbers -/
namespace KR
open PySem PySem.Spec PyProof.Rows L2
/-- a mark that a kettle can have -/
structure MOk (u : Rat) : Prop where
  u0 : 0 < u
  u1 : u < 1
  ud : u.den ≤ 60
theorem MOk.num {u : Rat} (h : MOk u) : 0 < u.num ∧ u.num < (u.den : Int) := by
  refine ⟨num_pos.mpr h.u0, ?_⟩
  have k := (lt_cross u 1).mpr h.u1
  have e1 : (1 : Rat).num = 1 := rfl
  have e2 : ((1 : Rat).den : Int) = 1 := rfl
  rw [e1, e2, Int.mul_one, Int.one_mul] at k
  exact k
theorem MOk.ne {u : Rat} (h : MOk u) : u ≠ 0 := fun e => by
  have := h.u0
  rw [e] at this
  exact Rat.lt_irrefl this
/-- what a mark's water is of its sugar -/
theorem MOk.per {u : Rat} (h : MOk u) : rq ((u.den : Int) - u.num) u.num = (1 - u) / u ∧ Sz 7 (rq ((u.den : Int) - u.num) u.num) := by
  obtain ⟨n0, n1⟩ := h.num
  have d := h.ud
  refine ⟨?_, ?_⟩
  · have k := rq_wat 1 u h.ne
    have e1 : (1 : Rat).num = 1 := rfl
    have e2 : ((1 : Rat).den : Int) = 1 := rfl
    rw [e1, e2, Int.one_mul, Int.one_mul] at k
    rw [k]
    unfold wat
    have := h.ne
    grind
  · have hb : u.num ≠ 0 := by omega
    have k := rq_low (t := (u.den : Int) - u.num) (b := u.num) hb
    have f1 := congrArg Prod.fst k
    have f2 := congrArg Prod.snd k
    obtain ⟨l1, l2⟩ := low_le ((u.den : Int) - u.num) u.num
    dsimp only at f1 f2
    exact ⟨by rw [← f1]; omega, by rw [← f2]; omega⟩
theorem wat_per {s u : Rat} (h : u ≠ 0) : s * ((1 - u) / u) = wat s u := by
  unfold wat
  grind
/-- each number to sixty divides it -/
def B60 : Nat := 9690712164777231700912800
theorem b60 (b : Nat) (h1 : 1 ≤ b) (h2 : b ≤ 60) : b ∣ B60 := by
  have k : ∀ b : Fin 61, 1 ≤ b.val → B60 % b.val = 0 := by decide +kernel
  exact Nat.dvd_of_mod_eq_zero (k ⟨b, by omega⟩ h1)
/-- a fraction that a law may hand in for a share -/
structure SAny (t : Rat) : Prop where
  n : t.num.natAbs ≤ 13
  d : t.den ≤ 60
/-- a kettle's name: one of the row's, or the stranger's -/
def KNm (nms : List Str) (x : Str) : Prop := x ∈ nms ∨ x = "qq"
instance kShOk {t : Rat} : Decidable (ShOk t) := by unfold ShOk; infer_instance
inductive KD
  | boil (h : Nat)
  | pour (x : Str) (s w : Rat)
  | dip (x : Str) (t : Rat)
  | ladle (x y : Str) (t : Rat)
  | skim (x : Str) (t g : Rat) (y : Str)
  | stop (x : Str)
  | start (x : Str)
def kstep (nms : List Str) : KD → KS → KS × PyData
  | .boil h, S => (S.boil nms h, toldD .none)
  | .pour x s w, S => if x ∉ nms then (S, refu "kettle" (.str x)) else if (S.st x).full s w then (S, refu "room" (.str x)) else (S.put x ((S.st x).inn s w), toldD .none)
  | .dip x t, S => if x ∉ nms then (S, refu "kettle" (.str x)) else if ¬ ShOk t then (S, refu "share" (dq t)) else if (S.st x).nil then (S, refu "empty" (.str x)) else (S.put x ((S.st x).out t), toldD (dj ((S.st x).s * t) ((S.st x).w * t)))
  | .ladle x y t, S => if x ∉ nms then (S, refu "kettle" (.str x)) else if y ∉ nms then (S, refu "kettle" (.str y)) else if x = y then (S, refu "same" (.str x)) else if ¬ ShOk t then (S, refu "share" (dq t)) else if (S.st x).nil then (S, refu "empty" (.str x))
    else if (S.st y).full ((S.st x).s * t) ((S.st x).w * t) then (S, refu "room" (.str y)) else ((S.put y ((S.st y).inn ((S.st x).s * t) ((S.st x).w * t))).put x ((S.st x).out t), toldD (dj ((S.st x).s * t) ((S.st x).w * t)))
  | .skim x t g y, S => if x ∉ nms then (S, refu "kettle" (.str x)) else if y ∉ nms then (S, refu "kettle" (.str y)) else if ¬ ShOk t then (S, refu "share" (dq t)) else if g ≠ 0 ∧ ¬ ShOk g then (S, refu "share" (dq g)) else if (S.st x).nil then (S, refu "empty" (.str x))
    else if (Ke.bef S x y t).full ((S.st x).s * t * g) ((S.st x).w * t * g) then (S, refu "room" (.str y)) else ((S.put x ((S.st x).out t)).put y ((Ke.bef S x y t).inn ((S.st x).s * t * g) ((S.st x).w * t * g)), toldD (.tuple [dj ((S.st x).s * t * g) ((S.st x).w * t * g), dj ((S.st x).s * t * (1 - g)) ((S.st x).w * t * (1 - g))]))
  | .stop x, S => if x ∉ nms then (S, refu "kettle" (.str x)) else if (S.st x).on = false then (S, refu "stopped" (.str x)) else (S.put x { S.st x with on := false }, toldD .none)
  | .start x, S => if x ∉ nms then (S, refu "kettle" (.str x)) else if (S.st x).on = true then (S, refu "inwork" (.str x)) else (S.put x { S.st x with on := true }, toldD .none)
/-- a deed at d -/
def KDAt (K : PySem.W.Frag) (H : Hp) (d : Addr) : KD → Prop
  | .boil h => SqT K H d [.str "boil", .int h]
  | .pour x s w => ∃ j, SqT K H d [.str "pour", .str x, .ref j] ∧ JuQ K H j s w
  | .dip x t => ∃ a, SqT K H d [.str "dip", .str x, .ref a] ∧ FrQ K H a t
  | .ladle x y t => ∃ a, SqT K H d [.str "ladle", .str x, .str y, .ref a] ∧ FrQ K H a t
  | .skim x t g y => ∃ a b, SqT K H d [.str "skim", .str x, .ref a, .ref b, .str y] ∧ FrQ K H a t ∧ FrQ K H b g
  | .stop x => SqT K H d [.str "stop", .str x]
  | .start x => SqT K H d [.str "start", .str x]
theorem KDAt.tk {K : PySem.W.Frag} {H H' : Hp} {d : Addr} {D : KD} (h : KDAt K H d D) (t : TK K H H') : KDAt K H' d D := by
  cases D with
  | boil h' => exact t _ _ h
  | pour x s w => obtain ⟨j, h1, h2⟩ := h; exact ⟨j, t _ _ h1, h2.tk t⟩
  | dip x q => obtain ⟨j, h1, h2⟩ := h; exact ⟨j, t _ _ h1, h2.tk t⟩
  | ladle x y q => obtain ⟨j, h1, h2⟩ := h; exact ⟨j, t _ _ h1, h2.tk t⟩
  | skim x q g y => obtain ⟨a, b, h1, h2, h3⟩ := h; exact ⟨a, b, t _ _ h1, h2.tk t, h3.tk t⟩
  | stop x => exact t _ _ h
  | start x => exact t _ _ h
structure KOk (M L : Nat) (k : Ke) : Prop where
  r0 : 1 ≤ k.room
  r9 : k.room ≤ 1000000
  f0 : 0 ≤ k.fire
  f9 : k.fire ≤ 10000
  mo : MOk k.mark
  ml : k.mark.num.natAbs ∣ L
  s0 : 0 ≤ k.s
  w0 : 0 ≤ k.w
  vol : k.s + k.w ≤ (k.room : Rat)
  sd : Dv M k.s
  wd : Dv (M * L) k.w
structure KInv (nms : List Str) (j : Nat) (S : KS) : Prop where
  ex : ∃ M L : Nat, 0 < M ∧ B60 ∣ M ∧ M ≤ B60 * 144 ^ j ∧ 0 < L ∧ L ≤ 60 ^ 8 ∧ (∀ x ∈ nms, KOk M L (S.st x)) ∧ Dv (M * L) S.gone
  g0 : 0 ≤ S.gone
  g9 : S.gone ≤ ((8000000 * j : Nat) : Int)
  hr : S.hour ≤ 1000 * j
  n8 : nms.length ≤ 8
/-- a pour whose numbers have whatever bottom the kettles have (and a bit more, where it is refused) -/
def PDv (nms : List Str) (S : KS) (x : Str) (s w : Rat) : Prop := ∀ M L : Nat, B60 ∣ M → (∀ y ∈ nms, KOk M L (S.st y)) → (Dv (M * L * (B60 * B60)) s ∧ Dv (M * L * (B60 * B60)) w) ∧ (x ∈ nms → ¬ (S.st x).full s w → Dv M s ∧ Dv (M * L) w)
theorem pdv_of {nms : List Str} {S : KS} {x : Str} {s w : Rat} (sd : Dv B60 s) (wd : Dv B60 w ∨ ∃ y ∈ nms, Dv (B60 * (S.st y).mark.num.natAbs) w) : PDv nms S x s w := fun M L md okk => by
  have hs : Dv M s := sd.up md
  have hw : Dv (M * L) w := by
    rcases wd with wd | ⟨y, hy, wd⟩
    · exact wd.up (Nat.dvd_trans md (Nat.dvd_mul_right _ _))
    · exact wd.up (Nat.mul_dvd_mul md (okk y hy).ml)
  exact ⟨⟨hs.up (Nat.dvd_trans (Nat.dvd_mul_right _ _) (Nat.dvd_mul_right _ _)), hw.up (Nat.dvd_mul_right _ _)⟩, fun _ _ => ⟨hs, hw⟩⟩
/-- a deed that a law makes -/
def KDOk (nms : List Str) (S : KS) : KD → Prop
  | .boil h => h ≤ 1000
  | .pour x s w => KNm nms x ∧ 0 ≤ s ∧ s ≤ 1000000 ∧ 0 ≤ w ∧ w ≤ 1000000 ∧ PDv nms S x s w
  | .dip x t => KNm nms x ∧ SAny t
  | .ladle x y t => KNm nms x ∧ KNm nms y ∧ SAny t
  | .skim x t g y => KNm nms x ∧ KNm nms y ∧ SAny t ∧ SAny g
  | .stop x => KNm nms x
  | .start x => KNm nms x
theorem big_of {N : Nat} {q : Rat} (d : Dv N q) (n0 : 0 < N) (n9 : N ≤ 2 ^ 4000) (lo : -(((2 ^ 300 : Nat) : Int) : Rat) ≤ q) (hi : q ≤ (((2 ^ 300 : Nat) : Int) : Rat)) : Big q :=
  d.sz n0 lo hi (by decide +kernel) (Nat.lt_of_le_of_lt (Nat.mul_le_mul_left _ n9) (by decide +kernel))
theorem p300 : (1000000000000000 : Rat) ≤ (((2 ^ 300 : Nat) : Int) : Rat) := by decide +kernel
/-- within a billion of millions -/
theorem big_in {N : Nat} {q : Rat} (d : Dv N q) (n0 : 0 < N) (n9 : N ≤ 2 ^ 4000) (lo : -1000000000000000 ≤ q) (hi : q ≤ 1000000000000000) : Big q :=
  big_of d n0 n9 (by have := p300; grind) (by have := p300; grind)
theorem n_bound {M L j : Nat} (m9 : M ≤ B60 * 144 ^ j) (l9 : L ≤ 60 ^ 8) (j9 : j ≤ 400) : M * L * (B60 * B60) ≤ 2 ^ 4000 := by
  have a : M ≤ B60 * 144 ^ 400 := Nat.le_trans m9 (Nat.mul_le_mul_left _ (Nat.pow_le_pow_right (by decide) j9))
  exact Nat.le_trans (Nat.mul_le_mul_right _ (Nat.mul_le_mul a l9)) (by decide +kernel)
end KR
/-! ### bounds of all that is reckoned with in kettles -/
namespace KR
open PySem PySem.Spec PyProof.Rows L2
theorem rq_le' {t b : Int} (h0 : 0 ≤ t) (hb : 1 ≤ b) : rq t b ≤ (t : Rat) := by
  have b0 : (0 : Rat) < (b : Rat) := by
    have : ((0 : Int) : Rat) < (b : Rat) := Rat.intCast_lt_intCast.mpr (by omega)
    exact this
  refine div_le b0 ?_
  rw [← Rat.intCast_mul]
  refine Rat.intCast_le_intCast.mpr ?_
  have := Int.mul_le_mul_of_nonneg_left hb h0
  omega
theorem mil : ((1000000 : Int) : Rat) = 1000000 := by decide +kernel
theorem icast0 {i : Int} (h : 0 ≤ i) : (0 : Rat) ≤ (i : Rat) := by
  have : ((0 : Int) : Rat) ≤ (i : Rat) := Rat.intCast_le_intCast.mpr h
  exact this
/-- what a common bottom is for -/
structure NOk (M L N : Nat) : Prop where
  m0 : 0 < M
  l0 : 0 < L
  n0 : 0 < N
  n9 : N ≤ 2 ^ 4000
  d : M * L * (B60 * B60) ∣ N
theorem NOk.dml {M L N : Nat} (h : NOk M L N) : M * L ∣ N := Nat.dvd_trans (Nat.dvd_mul_right _ _) h.d
theorem NOk.dm {M L N : Nat} (h : NOk M L N) : M ∣ N := Nat.dvd_trans (Nat.dvd_mul_right _ _) h.dml
/-- a number that can be reckoned with -/
structure In (N : Nat) (b : Rat) (q : Rat) : Prop where
  d : Dv N q
  lo : -b ≤ q
  hi : q ≤ b
theorem In.big {M L N : Nat} {b q : Rat} (h : In N b q) (n : NOk M L N) (b9 : b ≤ 1000000000000000) : Big q :=
  big_in h.d n.n0 n.n9 (by have := h.lo; grind) (by have := h.hi; grind)
theorem In.add {N : Nat} {b c p q : Rat} (h : In N b p) (k : In N c q) : In N (b + c) (p + q) := ⟨h.d.add k.d, by have := h.lo; have := k.lo; grind, by have := h.hi; have := k.hi; grind⟩
theorem In.sub {N : Nat} {b c p q : Rat} (h : In N b p) (k : In N c q) : In N (b + c) (p - q) := ⟨h.d.sub k.d, by have := h.lo; have := k.hi; grind, by have := h.hi; have := k.lo; grind⟩
theorem In.mono {N : Nat} {b c q : Rat} (h : In N b q) (k : b ≤ c) : In N c q := ⟨h.d, by have := h.lo; grind, by have := h.hi; grind⟩
theorem In.int {N : Nat} {b : Rat} {i : Int} (lo : -b ≤ (i : Rat)) (hi : (i : Rat) ≤ b) : In N b (i : Rat) := ⟨Dv.int i, lo, hi⟩
section
variable {M L N : Nat} {k : Ke}
theorem KOk.s9 (h : KOk M L k) : k.s ≤ 1000000 ∧ k.w ≤ 1000000 := by
  have a := h.vol
  have b : (k.room : Rat) ≤ ((1000000 : Int) : Rat) := Rat.intCast_le_intCast.mpr h.r9
  rw [mil] at b
  have := h.s0
  have := h.w0
  constructor <;> grind
theorem KOk.inS (h : KOk M L k) (n : NOk M L N) : In N 1000000 k.s := ⟨h.sd.up n.dm, by have := h.s0; grind, h.s9.1⟩
theorem KOk.inW (h : KOk M L k) (n : NOk M L N) : In N 1000000 k.w := ⟨h.wd.up n.dml, by have := h.w0; grind, h.s9.2⟩
theorem KOk.wat_dv (h : KOk M L k) : Dv (M * L) (wat k.s k.mark) := by
  obtain ⟨pe, _⟩ := h.mo.per
  obtain ⟨n0, n1⟩ := h.mo.num
  rw [← wat_per h.mo.ne, ← pe]
  exact (h.sd.mul (Dv.rq (t := (k.mark.den : Int) - k.mark.num) (b := k.mark.num) n0)).up (Nat.mul_dvd_mul_left _ h.ml)
theorem KOk.wat_in (h : KOk M L k) (n : NOk M L N) : In N 60000000 (wat k.s k.mark) ∧ 0 ≤ wat k.s k.mark := by
  obtain ⟨pe, _⟩ := h.mo.per
  obtain ⟨n0, n1⟩ := h.mo.num
  have d := h.mo.ud
  have e := wat_per (s := k.s) h.mo.ne
  have p0 : 0 ≤ rq ((k.mark.den : Int) - k.mark.num) k.mark.num := rq_nn (by omega) (by omega)
  have p1 := rq_le' (t := (k.mark.den : Int) - k.mark.num) (b := k.mark.num) (by omega) (by omega)
  have p2 : (((k.mark.den : Int) - k.mark.num : Int) : Rat) ≤ ((60 : Int) : Rat) := Rat.intCast_le_intCast.mpr (by omega)
  have e60 : ((60 : Int) : Rat) = 60 := by decide +kernel
  rw [e60] at p2
  rw [pe] at p0 p1
  have s0 := h.s0
  have s9 := h.s9.1
  have w0 : 0 ≤ wat k.s k.mark := by rw [← e]; exact Rat.mul_nonneg s0 p0
  refine ⟨⟨h.wat_dv.up n.dml, by grind, ?_⟩, w0⟩
  rw [← e]
  have a := Rat.mul_le_mul_of_nonneg_left (Rat.le_trans p1 p2) s0
  have b := Rat.mul_le_mul_of_nonneg_right s9 (show (0 : Rat) ≤ 60 by decide +kernel)
  grind
theorem KOk.u_sz (h : KOk M L k) : Sz 7 k.mark := by
  obtain ⟨n0, n1⟩ := h.mo.num
  have := h.mo.ud
  exact ⟨by omega, by omega⟩
theorem KOk.room_sz (h : KOk M L k) : Big (k.room : Rat) := by
  have := h.r0
  have := h.r9
  exact (Sz.int (z := k.room) (n := 21) (by omega) (by decide)).up (by decide)
theorem KOk.fh_in (h : KOk M L k) {t : Nat} (t9 : t ≤ 1000) : In N 10000000 ((k.fire : Rat) * ((t : Int) : Rat)) := by
  have f0 := h.f0
  have f9 := h.f9
  have a : 0 ≤ k.fire * (t : Int) := Int.mul_nonneg f0 (by omega)
  have b : k.fire * (t : Int) ≤ 10000 * 1000 := Int.mul_le_mul f9 (by omega) (by omega) (by decide)
  rw [← Rat.intCast_mul]
  have e : ((10000000 : Int) : Rat) = 10000000 := by decide +kernel
  have c : ((k.fire * (t : Int) : Int) : Rat) ≤ ((10000000 : Int) : Rat) := Rat.intCast_le_intCast.mpr (by omega)
  rw [e] at c
  exact .int (by have := icast0 a; grind) c
/-- what boils leaves no more water, and none below nought -/
theorem KOk.boil_in (h : KOk M L k) {t : Nat} (t9 : t ≤ 1000) : Dv (M * L) (boil k.s k.w k.fire k.mark ((t : Int) : Rat)) ∧ 0 ≤ boil k.s k.w k.fire k.mark ((t : Int) : Rat) ∧ boil k.s k.w k.fire k.mark ((t : Int) : Rat) ≤ k.w := by
  have w0 := h.w0
  have f0 : (0 : Rat) ≤ (k.fire : Rat) * ((t : Int) : Rat) := Rat.mul_nonneg (icast0 h.f0) (icast0 (by omega))
  have nn : NOk M L (M * L * (B60 * B60)) → 0 ≤ wat k.s k.mark := fun n => (h.wat_in n).2
  have wn : 0 ≤ wat k.s k.mark := by
    obtain ⟨pe, _⟩ := h.mo.per
    obtain ⟨n0, n1⟩ := h.mo.num
    rw [← wat_per h.mo.ne, ← pe]
    exact Rat.mul_nonneg h.s0 (rq_nn (by omega) (by omega))
  unfold boil
  split
  · rename_i c
    split
    · exact ⟨h.wat_dv, wn, Rat.le_of_lt c⟩
    · rename_i c2
      refine ⟨h.wd.sub ?_, Rat.le_trans wn (Rat.not_lt.mp c2), by grind⟩
      rw [← Rat.intCast_mul]
      exact Dv.int _
  · exact ⟨h.wd, w0, Rat.le_refl⟩
theorem KOk.kbig (h : KOk M L k) (n : NOk M L N) {t : Nat} (t9 : t ≤ 1000) : KBig k t := by
  obtain ⟨b1, b2, b3⟩ := h.boil_in t9
  have bi : In N 1000000 (boil k.s k.w k.fire k.mark ((t : Int) : Rat)) := ⟨b1.up n.dml, by grind, Rat.le_trans b3 h.s9.2⟩
  have f0 := h.f0
  have f9 := h.f9
  refine ⟨(h.inS n).big n (by decide +kernel), (h.inW n).big n (by decide +kernel), h.u_sz.up (by decide), (Sz.int (z := (t : Int)) (n := 20) (by omega) (by decide)).up (by decide), (h.wat_in n).1.big n (by decide +kernel), (h.fh_in (N := N) t9).big n (by decide +kernel), ((h.inW n).sub (h.fh_in t9)).big n (by decide +kernel), bi.big n (by decide +kernel), ((h.inW n).sub bi).big n (by decide +kernel), by omega, h.mo.ne, by omega⟩
theorem KOk.boiled (h : KOk M L k) {t : Nat} (t9 : t ≤ 1000) : KOk M L (kb t k) := by
  unfold kb
  split
  · obtain ⟨b1, b2, b3⟩ := h.boil_in t9
    exact ⟨h.r0, h.r9, h.f0, h.f9, h.mo, h.ml, h.s0, b2, by have := h.vol; show k.s + boil k.s k.w k.fire k.mark ((t : Int) : Rat) ≤ _; grind, h.sd, b1⟩
  · exact h
theorem KOk.rbig (h : KOk M L k) (n : NOk M L N) : RBig k ∧ (∀ q, k.fire ≠ 0 → q = (k.w - wat k.s k.mark) / (k.fire : Rat) → Big q) := by
  have f0 := h.f0
  have f9 := h.f9
  have q1 : ∀ q, k.fire ≠ 0 → q = (k.w - wat k.s k.mark) / (k.fire : Rat) → Big q := fun q fn e => by
    have i := (h.inW n).sub (h.wat_in n).1
    have f1 : 1 ≤ k.fire := by omega
    have er : (k.w - wat k.s k.mark) / (k.fire : Rat) = (k.w - wat k.s k.mark) * rq 1 k.fire := by
      unfold rq
      have : ((1 : Int) : Rat) = 1 := rfl
      rw [this]
      grind
    have d1 : Dv (M * L * k.fire.natAbs) q := by
      rw [e, er]
      exact (h.wd.sub h.wat_dv).mul (Dv.rq (by omega))
    have r0 : 0 ≤ rq 1 k.fire := rq_nn (by decide) (by omega)
    have r1 : rq 1 k.fire ≤ 1 := rq_le_one (by omega) (by omega)
    have lo := i.lo
    have hi := i.hi
    have abs : -61000000 ≤ q ∧ q ≤ 61000000 := by
      rw [e, er]
      generalize k.w - wat k.s k.mark = d at lo hi
      have a1 := Rat.mul_le_mul_of_nonneg_right hi r0
      have a2 := Rat.mul_le_mul_of_nonneg_right lo r0
      constructor <;> grind
    have b0 : 0 < M * L * k.fire.natAbs := Nat.mul_pos (Nat.mul_pos n.m0 n.l0) (by omega)
    have b9 : M * L * k.fire.natAbs ≤ 2 ^ 4000 := Nat.le_trans (Nat.mul_le_mul_left (M * L) (Nat.le_trans (show k.fire.natAbs ≤ 10000 by omega) (by decide +kernel : 10000 ≤ B60 * B60))) (Nat.le_trans (Nat.le_of_dvd n.n0 n.d) n.n9)
    exact big_in d1 b0 b9 (by grind) (by grind)
  refine ⟨⟨(h.inS n).big n (by decide +kernel), (h.inW n).big n (by decide +kernel), h.u_sz.up (by decide), (h.wat_in n).1.big n (by decide +kernel), ((h.inW n).sub (h.wat_in n).1).big n (by decide +kernel), by omega, h.mo.ne, fun q e => ?_⟩, q1⟩
  unfold rdy ready at e
  by_cases c1 : k.s = 0
  · rw [if_pos c1] at e; cases e
  rw [if_neg c1] at e
  by_cases c2 : wat k.s k.mark < k.w
  · rw [if_pos c2] at e
    by_cases c3 : (if k.on = true then k.fire else 0) = 0
    · rw [if_pos c3] at e; cases e
    · rw [if_neg c3] at e
      have ef : (if k.on = true then k.fire else 0) = k.fire := by
        by_cases o : k.on = true
        · rw [if_pos o]
        · exact absurd (if_neg o) c3
      rw [ef] at c3 e
      exact q1 _ c3 (Option.some.inj e).symm
  · rw [if_neg c2] at e
    rw [← Option.some.inj e]
    exact (Sz.int (z := 0) (n := 1) (by decide) (by decide) : Sz 1 ((0 : Int) : Rat)).up (by decide)
/-- juice that is poured in -/
theorem vbig {s w : Rat} (h : KOk M L k) (n : NOk M L N) (hs : In N 1000000000 s) (hw : In N 1000000000 w) : VBig k.s k.w s w ∧ Big (k.s + k.w) ∧ Big (s + w) := by
  have a := h.inS n
  have b := h.inW n
  refine ⟨⟨a.big n (by decide +kernel), b.big n (by decide +kernel), hs.big n (by decide +kernel), hw.big n (by decide +kernel), (a.add hs).big n (by decide +kernel), (b.add hw).big n (by decide +kernel), ((a.add hs).add (b.add hw)).big n (by decide +kernel)⟩, (a.add b).big n (by decide +kernel), (hs.add hw).big n (by decide +kernel)⟩
theorem SAny.sz {t : Rat} (h : SAny t) : Big t ∧ Big (1 - t) := by
  have a : Sz 6 t := ⟨by have := h.n; omega, by have := h.d; omega⟩
  have o : Sz 1 ((1 : Int) : Rat) := Sz.int (by decide) (by decide)
  have e : ((1 : Int) : Rat) = 1 := rfl
  rw [e] at o
  exact ⟨a.up (by decide), (o.sub a).up (by decide)⟩
theorem SAny.bd {t : Rat} (h : SAny t) : -13 ≤ t ∧ t ≤ 13 := by
  have e := rat_nd t
  have n := h.n
  have dp : 1 ≤ (t.den : Int) := by have := t.den_pos; omega
  have e13 : ((13 : Int) : Rat) = 13 := by decide +kernel
  have em : ((-13 : Int) : Rat) = -13 := by decide +kernel
  have d0 : (0 : Rat) < (((t.den : Nat) : Int) : Rat) := by
    have : ((0 : Int) : Rat) < (((t.den : Nat) : Int) : Rat) := Rat.intCast_lt_intCast.mpr (by omega)
    exact this
  rw [← e]
  constructor
  · refine le_div d0 ?_
    rw [← em, ← Rat.intCast_mul]
    refine Rat.intCast_le_intCast.mpr ?_
    have : -13 * (t.den : Int) ≤ -13 * 1 := by omega
    omega
  · refine div_le d0 ?_
    rw [← e13, ← Rat.intCast_mul]
    exact Rat.intCast_le_intCast.mpr (by omega)
end
theorem sh01 {t : Rat} (h : ShOk t) : 0 ≤ 1 - t ∧ 1 - t ≤ 1 := by
  obtain ⟨h1, h2, h3⟩ := h
  have a : 0 < t := num_pos.mp h1
  have b : t ≤ 1 := by
    rw [Rat.le_iff]
    have e1 : (1 : Rat).num = 1 := rfl
    have e2 : ((1 : Rat).den : Int) = 1 := rfl
    rw [e1, e2]
    omega
  constructor <;> grind
theorem mul_le' {a b : Rat} (ha : 0 ≤ a) (b0 : 0 ≤ b) (hb : b ≤ 1) : 0 ≤ a * b ∧ a * b ≤ a := by
  have := Rat.mul_le_mul_of_nonneg_left hb ha
  rw [Rat.mul_one] at this
  exact ⟨Rat.mul_nonneg ha b0, this⟩
theorem KOk.up {M M' L : Nat} {k : Ke} (h : KOk M L k) (d : M ∣ M') : KOk M' L k := ⟨h.r0, h.r9, h.f0, h.f9, h.mo, h.ml, h.s0, h.w0, h.vol, h.sd.up d, h.wd.up (Nat.mul_dvd_mul_right d L)⟩
theorem KOk.out {M L : Nat} {k : Ke} {t : Rat} (h : KOk M L k) (ok : ShOk t) : KOk (M * t.den) L (k.out t) := by
  obtain ⟨t0, t1⟩ := sh01 ok
  have td : Dv t.den (1 - t) := (Dv.int (M := t.den) 1).sub (Dv.den t)
  have s0 := h.s0
  have w0 := h.w0
  have a := mul_le' s0 t0 t1
  have b := mul_le' w0 t0 t1
  refine ⟨h.r0, h.r9, h.f0, h.f9, h.mo, h.ml, a.1, b.1, ?_, h.sd.mul td, ?_⟩
  · have := h.vol
    have := a.2
    have := b.2
    show k.s * (1 - t) + k.w * (1 - t) ≤ (k.room : Rat)
    grind
  · have e : M * t.den * L = M * L * t.den := by rw [Nat.mul_assoc, Nat.mul_comm t.den, ← Nat.mul_assoc]
    rw [e]
    exact h.wd.mul td
theorem KOk.inn {M L : Nat} {k : Ke} {s w : Rat} (h : KOk M L k) (s0 : 0 ≤ s) (w0 : 0 ≤ w) (sd : Dv M s) (wd : Dv (M * L) w) (nf : ¬ k.full s w) : KOk M L (k.inn s w) := by
  refine ⟨h.r0, h.r9, h.f0, h.f9, h.mo, h.ml, ?_, ?_, ?_, h.sd.add sd, h.wd.add wd⟩
  · have := h.s0; show 0 ≤ k.s + s; grind
  · have := h.w0; show 0 ≤ k.w + w; grind
  · exact Rat.not_lt.mp nf
theorem goff_in {M L N : Nat} {st : Str → Ke} {h : Nat} (n : NOk M L N) (h9 : h ≤ 1000) : ∀ (l : List Str) (g : Rat), (∀ x ∈ l, KOk M L (st x)) → Dv (M * L) g → 0 ≤ g → Dv (M * L) (goff h st l g) ∧ 0 ≤ goff h st l g ∧ goff h st l g ≤ g + 1000000 * (((l.length : Nat) : Int) : Rat)
  | [], g, _, d, g0 => ⟨d, g0, by
    have e : (((([] : List Str).length : Nat) : Int) : Rat) = 0 := rfl
    rw [e, Rat.mul_zero, Rat.add_zero]
    exact Rat.le_refl⟩
  | x :: r, g, ok, d, g0 => by
    have kx := ok x List.mem_cons_self
    obtain ⟨b1, b2, b3⟩ := kx.boil_in h9
    have w0 := kx.w0
    have w9 := kx.s9.2
    have dw : Dv (M * L) ((st x).w - (kb h (st x)).w) ∧ 0 ≤ (st x).w - (kb h (st x)).w ∧ (st x).w - (kb h (st x)).w ≤ 1000000 := by
      unfold kb
      split
      · refine ⟨kx.wd.sub b1, ?_, ?_⟩
        · show 0 ≤ (st x).w - boil _ _ _ _ _; grind
        · show (st x).w - boil _ _ _ _ _ ≤ _; grind
      · have e : (st x).w - (st x).w = 0 := by grind
        rw [e]
        exact ⟨Dv.zero, Rat.le_refl, by decide +kernel⟩
    obtain ⟨c1, c2, c3⟩ := goff_in n h9 r (g + ((st x).w - (kb h (st x)).w)) (fun y hy => ok y (List.mem_cons_of_mem _ hy)) (d.add dw.1) (by have := dw.2.1; grind)
    refine ⟨c1, c2, ?_⟩
    have e : ((((x :: r).length : Nat) : Int) : Rat) = (((r.length : Nat) : Int) : Rat) + 1 := by
      rw [List.length_cons, Int.natCast_add, Rat.intCast_add] <;> rfl
    rw [e]
    have := dw.2.2
    show goff h st r (g + ((st x).w - (kb h (st x)).w)) ≤ _
    grind
theorem KInv.nok {nms : List Str} {j M L : Nat} (j9 : j ≤ 400) (m0 : 0 < M) (m9 : M ≤ B60 * 144 ^ j) (l0 : 0 < L) (l9 : L ≤ 60 ^ 8) : NOk M L (M * L * (B60 * B60)) := ⟨m0, l0, Nat.mul_pos (Nat.mul_pos m0 l0) (by decide), n_bound m9 l9 j9, Nat.dvd_refl _⟩
theorem KInv.mono {nms : List Str} {j j' : Nat} {S : KS} (h : KInv nms j S) (le : j ≤ j') : KInv nms j' S := by
  obtain ⟨⟨M, L, m0, md, m9, l0, l9, ok, gd⟩, g0, g9, hr, n8⟩ := h
  exact ⟨⟨M, L, m0, md, Nat.le_trans m9 (Nat.mul_le_mul_left _ (Nat.pow_le_pow_right (by decide) le)), l0, l9, ok, gd⟩, g0, Rat.le_trans g9 (Rat.intCast_le_intCast.mpr (by omega)), by omega, n8⟩
/-- one kettle changed, the common bottom grown by so much -/
theorem KInv.step {nms : List Str} {j : Nat} {S S' : KS} (h : KInv nms j S) (c : Nat) (c0 : 0 < c) (c9 : c ≤ 144) (k : ∀ M L, 0 < M → B60 ∣ M → 0 < L → (∀ x ∈ nms, KOk M L (S.st x)) → ∀ x ∈ nms, KOk (M * c) L (S'.st x)) (eg : S'.gone = S.gone) (eh : S'.hour = S.hour) : KInv nms (j + 1) S' := by
  obtain ⟨⟨M, L, m0, md, m9, l0, l9, ok, gd⟩, g0, g9, hr, n8⟩ := h
  refine ⟨⟨M * c, L, Nat.mul_pos m0 c0, Nat.dvd_trans md (Nat.dvd_mul_right _ _), ?_, l0, l9, k M L m0 md l0 ok, ?_⟩, by rw [eg]; exact g0, ?_, by rw [eh]; omega, n8⟩
  · rw [Nat.pow_succ, ← Nat.mul_assoc]
    exact Nat.mul_le_mul m9 c9
  · rw [eg]
    exact gd.up (Nat.mul_dvd_mul_right (Nat.dvd_mul_right _ _) L)
  · rw [eg]
    exact Rat.le_trans g9 (Rat.intCast_le_intCast.mpr (by omega))
theorem put_ok {M L : Nat} {nms : List Str} {S : KS} {x : Str} {k : Ke} (ok : ∀ y ∈ nms, KOk M L (S.st y)) (h : KOk M L k) : ∀ y ∈ nms, KOk M L ((S.put x k).st y) := fun y hy => by
  show KOk M L (set1 S.st x k y)
  by_cases e : y = x
  · rw [e, set1_same]; exact h
  · rw [set1_ne e]; exact ok y hy
theorem sh_bottom {t : Rat} (ok : ShOk t) : 0 < t.den ∧ t.den ≤ 12 := ⟨t.den_pos, by obtain ⟨h1, h2, h3⟩ := ok; omega⟩
/-- the part that is taken -/
theorem KOk.part {M L : Nat} {k : Ke} {t : Rat} (h : KOk M L k) (t0 : 0 ≤ t) (t1 : t ≤ 1) : 0 ≤ k.s * t ∧ k.s * t ≤ k.s ∧ 0 ≤ k.w * t ∧ k.w * t ≤ k.w ∧ Dv (M * t.den) (k.s * t) ∧ Dv (M * t.den * L) (k.w * t) := by
  have s0 := h.s0
  have w0 := h.w0
  have e : M * t.den * L = M * L * t.den := by rw [Nat.mul_assoc, Nat.mul_comm t.den, ← Nat.mul_assoc]
  refine ⟨Rat.mul_nonneg s0 t0, ?_, Rat.mul_nonneg w0 t0, ?_, h.sd.mul (Dv.den t), by rw [e]; exact h.wd.mul (Dv.den t)⟩
  · have := Rat.mul_le_mul_of_nonneg_left t1 s0; rw [Rat.mul_one] at this; exact this
  · have := Rat.mul_le_mul_of_nonneg_left t1 w0; rw [Rat.mul_one] at this; exact this
theorem kstep_inv {nms : List Str} {j : Nat} {S : KS} {D : KD} (h : KInv nms j S) (j9 : j ≤ 400) (ok : KDOk nms S D) : KInv nms (j + 1) (kstep nms D S).1 := by
  have up := h.mono (Nat.le_succ j)
  cases D with
  | boil t =>
    have t9 : t ≤ 1000 := ok
    obtain ⟨⟨M, L, m0, md, m9, l0, l9, okk, gd⟩, g0, g9, hr, n8⟩ := h
    have n := KInv.nok (nms := nms) j9 m0 m9 l0 l9
    obtain ⟨c1, c2, c3⟩ := goff_in n t9 nms S.gone okk gd g0
    refine ⟨⟨M, L, m0, md, Nat.le_trans m9 (Nat.mul_le_mul_left _ (Nat.pow_le_pow_right (by decide) (Nat.le_succ j))), l0, l9, fun x hx => (okk x hx).boiled t9, c1⟩, c2, ?_, ?_, n8⟩
    · have e1 : (((nms.length : Nat) : Int) : Rat) ≤ ((8 : Int) : Rat) := Rat.intCast_le_intCast.mpr (by omega)
      have e2 : ((8 : Int) : Rat) = 8 := by decide +kernel
      have e3 : (((8000000 * (j + 1) : Nat) : Int) : Rat) = (((8000000 * j : Nat) : Int) : Rat) + 8000000 := by
        have : ((8000000 : Int) : Rat) = 8000000 := by decide +kernel
        rw [← this, ← Rat.intCast_add]
        congr 1
      rw [e2] at e1
      rw [e3]
      show goff t S.st nms S.gone ≤ _
      grind
    · show S.hour + t ≤ 1000 * (j + 1)
      omega
  | pour x s w =>
    obtain ⟨kn, s0, s9, w0, w9, pd⟩ := ok
    unfold kstep
    dsimp only
    by_cases c1 : x ∉ nms
    · rw [if_pos c1]; exact up
    rw [if_neg c1]
    by_cases c2 : (S.st x).full s w
    · rw [if_pos c2]; exact up
    rw [if_neg c2]
    have hx := Classical.not_not.mp c1
    refine h.step 1 (by decide) (by decide) (fun M L m0 md l0 okk => ?_) rfl rfl
    rw [Nat.mul_one]
    obtain ⟨sd, wd⟩ := (pd M L md okk).2 hx c2
    exact put_ok okk ((okk x hx).inn s0 w0 sd wd c2)
  | dip x t =>
    unfold kstep
    dsimp only
    by_cases c1 : x ∉ nms
    · rw [if_pos c1]; exact up
    rw [if_neg c1]
    by_cases c2 : ¬ ShOk t
    · rw [if_pos c2]; exact up
    rw [if_neg c2]
    by_cases c3 : (S.st x).nil
    · rw [if_pos c3]; exact up
    rw [if_neg c3]
    have hx := Classical.not_not.mp c1
    have ok := Classical.not_not.mp c2
    obtain ⟨d0, d9⟩ := sh_bottom ok
    exact h.step t.den d0 (by omega) (fun M L m0 md l0 okk => put_ok (fun y hy => (okk y hy).up (Nat.dvd_mul_right _ _)) ((okk x hx).out ok)) rfl rfl
  | ladle x y t =>
    unfold kstep
    dsimp only
    by_cases c1 : x ∉ nms
    · rw [if_pos c1]; exact up
    rw [if_neg c1]
    by_cases c2 : y ∉ nms
    · rw [if_pos c2]; exact up
    rw [if_neg c2]
    by_cases c3 : x = y
    · rw [if_pos c3]; exact up
    rw [if_neg c3]
    by_cases c4 : ¬ ShOk t
    · rw [if_pos c4]; exact up
    rw [if_neg c4]
    by_cases c5 : (S.st x).nil
    · rw [if_pos c5]; exact up
    rw [if_neg c5]
    by_cases c6 : (S.st y).full ((S.st x).s * t) ((S.st x).w * t)
    · rw [if_pos c6]; exact up
    rw [if_neg c6]
    have hx := Classical.not_not.mp c1
    have hy := Classical.not_not.mp c2
    have ok := Classical.not_not.mp c4
    obtain ⟨d0, d9⟩ := sh_bottom ok
    obtain ⟨t0, t1⟩ := sh01 ok
    refine h.step t.den d0 (by omega) (fun M L m0 md l0 okk => ?_) rfl rfl
    have t00 : 0 ≤ t := by grind
    have t11 : t ≤ 1 := by grind
    obtain ⟨p1, p2, p3, p4, p5, p6⟩ := (okk x hx).part t00 t11
    exact put_ok (put_ok (fun y hy => (okk y hy).up (Nat.dvd_mul_right _ _)) (((okk y hy).up (Nat.dvd_mul_right _ _)).inn p1 p3 p5 p6 c6)) ((okk x hx).out ok)
  | skim x t g y =>
    unfold kstep
    dsimp only
    by_cases c1 : x ∉ nms
    · rw [if_pos c1]; exact up
    rw [if_neg c1]
    by_cases c2 : y ∉ nms
    · rw [if_pos c2]; exact up
    rw [if_neg c2]
    by_cases c4 : ¬ ShOk t
    · rw [if_pos c4]; exact up
    rw [if_neg c4]
    by_cases c7 : g ≠ 0 ∧ ¬ ShOk g
    · rw [if_pos c7]; exact up
    rw [if_neg c7]
    by_cases c5 : (S.st x).nil
    · rw [if_pos c5]; exact up
    rw [if_neg c5]
    by_cases c6 : (Ke.bef S x y t).full ((S.st x).s * t * g) ((S.st x).w * t * g)
    · rw [if_pos c6]; exact up
    rw [if_neg c6]
    have hx := Classical.not_not.mp c1
    have hy := Classical.not_not.mp c2
    have ok := Classical.not_not.mp c4
    obtain ⟨d0, d9⟩ := sh_bottom ok
    obtain ⟨t0, t1⟩ := sh01 ok
    have t00 : 0 ≤ t := by grind
    have t11 : t ≤ 1 := by grind
    obtain ⟨g0, g1, e0, e9⟩ : 0 ≤ g ∧ g ≤ 1 ∧ 0 < g.den ∧ g.den ≤ 12 := by
      by_cases z : g = 0
      · rw [z]
        exact ⟨Rat.le_refl, by decide +kernel, by decide, by decide⟩
      · have og : ShOk g := Classical.byContradiction fun q => c7 ⟨z, q⟩
        obtain ⟨a, b⟩ := sh01 og
        obtain ⟨c, d⟩ := sh_bottom og
        exact ⟨by grind, by grind, c, d⟩
    refine h.step (t.den * g.den) (Nat.mul_pos d0 e0) (Nat.le_trans (Nat.mul_le_mul d9 e9) (by decide)) (fun M L m0 md l0 okk => ?_) rfl rfl
    obtain ⟨p1, p2, p3, p4, p5, p6⟩ := (okk x hx).part t00 t11
    have ox := (okk x hx).out ok
    have em : M * (t.den * g.den) = M * t.den * g.den := (Nat.mul_assoc _ _ _).symm
    have el : M * t.den * g.den * L = M * t.den * L * g.den := by rw [Nat.mul_assoc (M * t.den), Nat.mul_comm g.den, ← Nat.mul_assoc]
    rw [em]
    have upx := ox.up (M' := M * t.den * g.den) (Nat.dvd_mul_right _ _)
    have ob : KOk (M * t.den * g.den) L (Ke.bef S x y t) := by
      unfold Ke.bef
      split
      · exact upx
      · exact (okk y hy).up (Nat.dvd_trans (Nat.dvd_mul_right _ _) (Nat.dvd_mul_right _ _))
    refine put_ok (put_ok (fun z hz => (okk z hz).up (Nat.dvd_trans (Nat.dvd_mul_right _ _) (Nat.dvd_mul_right _ _))) upx) (ob.inn (Rat.mul_nonneg p1 g0) (Rat.mul_nonneg p3 g0) (p5.mul (Dv.den g)) (by rw [el]; exact p6.mul (Dv.den g)) c6)
  | stop x =>
    unfold kstep
    dsimp only
    by_cases c1 : x ∉ nms
    · rw [if_pos c1]; exact up
    rw [if_neg c1]
    by_cases c2 : (S.st x).on = false
    · rw [if_pos c2]; exact up
    rw [if_neg c2]
    have hx := Classical.not_not.mp c1
    refine h.step 1 (by decide) (by decide) (fun M L m0 md l0 okk => ?_) rfl rfl
    rw [Nat.mul_one]
    have o := okk x hx
    exact put_ok okk ⟨o.r0, o.r9, o.f0, o.f9, o.mo, o.ml, o.s0, o.w0, o.vol, o.sd, o.wd⟩
  | start x =>
    unfold kstep
    dsimp only
    by_cases c1 : x ∉ nms
    · rw [if_pos c1]; exact up
    rw [if_neg c1]
    by_cases c2 : (S.st x).on = true
    · rw [if_pos c2]; exact up
    rw [if_neg c2]
    have hx := Classical.not_not.mp c1
    refine h.step 1 (by decide) (by decide) (fun M L m0 md l0 okk => ?_) rfl rfl
    rw [Nat.mul_one]
    have o := okk x hx
    exact put_ok okk ⟨o.r0, o.r9, o.f0, o.f9, o.mo, o.ml, o.s0, o.w0, o.vol, o.sd, o.wd⟩
theorem KInv.get {nms : List Str} {j : Nat} {S : KS} (h : KInv nms j S) (j9 : j ≤ 400) : ∃ M L N : Nat, NOk M L N ∧ B60 ∣ M ∧ (∀ x ∈ nms, KOk M L (S.st x)) ∧ Dv (M * L) S.gone := by
  obtain ⟨⟨M, L, m0, md, m9, l0, l9, okk, gd⟩, _⟩ := h
  exact ⟨M, L, _, KInv.nok (nms := nms) j9 m0 m9 l0 l9, md, okk, gd⟩
theorem SAny.dd {t : Rat} (h : SAny t) : t.den ∣ B60 := b60 _ t.den_pos h.d
section
variable {M L N : Nat} {k : Ke} {t g : Rat}
theorem bd_mul {a b x y : Rat} (hx : 0 ≤ x ∧ x ≤ a) (hy : -b ≤ y ∧ y ≤ b) : -(a * b) ≤ x * y ∧ x * y ≤ a * b := by
  obtain ⟨x0, x1⟩ := hx
  obtain ⟨y0, y1⟩ := hy
  have b0 : 0 ≤ b := by grind
  have k1 := Rat.mul_le_mul_of_nonneg_left y1 x0
  have k2 := Rat.mul_le_mul_of_nonneg_left y0 x0
  have k3 := Rat.mul_le_mul_of_nonneg_right x1 b0
  constructor <;> grind
theorem KOk.part_in (h : KOk M L k) (n : NOk M L N) (ht : SAny t) : In N 13000000 (k.s * t) ∧ In N 13000000 (k.w * t) := by
  have d1 : M * t.den ∣ N := Nat.dvd_trans (Nat.mul_dvd_mul_left M (Nat.dvd_trans ht.dd (Nat.dvd_trans (Nat.dvd_mul_right B60 B60) (Nat.dvd_mul_left _ L)))) (by rw [← Nat.mul_assoc]; exact n.d)
  have d2 : M * L * t.den ∣ N := Nat.dvd_trans (Nat.mul_dvd_mul_left (M * L) (Nat.dvd_trans ht.dd (Nat.dvd_mul_right B60 B60))) n.d
  have a := bd_mul ⟨h.s0, h.s9.1⟩ ht.bd
  have b := bd_mul ⟨h.w0, h.s9.2⟩ ht.bd
  have e : (1000000 : Rat) * 13 = 13000000 := by decide +kernel
  rw [e] at a b
  exact ⟨⟨(h.sd.mul (Dv.den t)).up d1, a.1, a.2⟩, ⟨(h.wd.mul (Dv.den t)).up d2, b.1, b.2⟩⟩
theorem KOk.part2_in (h : KOk M L k) (n : NOk M L N) (ht : SAny t) (hg : SAny g) : In N 169000000 (k.s * t * g) ∧ In N 169000000 (k.w * t * g) := by
  have db : t.den * g.den ∣ B60 * B60 := Nat.mul_dvd_mul ht.dd hg.dd
  have d1 : M * (t.den * g.den) ∣ N := Nat.dvd_trans (Nat.mul_dvd_mul_left M (Nat.dvd_trans db (Nat.dvd_mul_left _ L))) (by rw [← Nat.mul_assoc]; exact n.d)
  have d2 : M * L * (t.den * g.den) ∣ N := Nat.dvd_trans (Nat.mul_dvd_mul_left (M * L) db) n.d
  have tg : -(13 * 13) ≤ t * g ∧ t * g ≤ 13 * 13 := by
    obtain ⟨g0, g1⟩ := hg.bd
    obtain ⟨t0, t1⟩ := ht.bd
    by_cases c : 0 ≤ t
    · exact bd_mul ⟨c, t1⟩ ⟨g0, g1⟩
    · have := bd_mul (x := -t) (a := 13) ⟨by grind, by grind⟩ ⟨g0, g1⟩
      constructor <;> grind
  have a := bd_mul ⟨h.s0, h.s9.1⟩ tg
  have b := bd_mul ⟨h.w0, h.s9.2⟩ tg
  have e : (1000000 : Rat) * (13 * 13) = 169000000 := by decide +kernel
  rw [e] at a b
  have m1 : k.s * t * g = k.s * (t * g) := by grind
  have m2 : k.w * t * g = k.w * (t * g) := by grind
  rw [m1, m2]
  exact ⟨⟨(h.sd.mul ((Dv.den t).mul (Dv.den g))).up d1, a.1, a.2⟩, ⟨(h.wd.mul ((Dv.den t).mul (Dv.den g))).up d2, b.1, b.2⟩⟩
/-- juice poured into a kettle, or into what is left of it -/
theorem vbig2 {s w : Rat} {a b : Rat} (n : NOk M L N) (ha : In N 1000000000 a) (hb : In N 1000000000 b) (hs : In N 1000000000 s) (hw : In N 1000000000 w) : VBig a b s w ∧ Big (a + b) ∧ Big (s + w) :=
  ⟨⟨ha.big n (by decide +kernel), hb.big n (by decide +kernel), hs.big n (by decide +kernel), hw.big n (by decide +kernel), (ha.add hs).big n (by decide +kernel), (hb.add hw).big n (by decide +kernel), ((ha.add hs).add (hb.add hw)).big n (by decide +kernel)⟩, (ha.add hb).big n (by decide +kernel), (hs.add hw).big n (by decide +kernel)⟩
theorem KOk.out_in (h : KOk M L k) (n : NOk M L N) (ht : SAny t) : In N 14000000 (k.out t).s ∧ In N 14000000 (k.out t).w := by
  obtain ⟨a, b⟩ := h.part_in n ht
  have x := (h.inS n).sub a
  have y := (h.inW n).sub b
  have e1 : k.s - k.s * t = (k.out t).s := by show k.s - k.s * t = k.s * (1 - t); grind
  have e2 : k.w - k.w * t = (k.out t).w := by show k.w - k.w * t = k.w * (1 - t); grind
  rw [e1] at x
  rw [e2] at y
  exact ⟨x.mono (by decide +kernel), y.mono (by decide +kernel)⟩
theorem bef_in {S : KS} {x y : Str} (hx : KOk M L (S.st x)) (hy : KOk M L (S.st y)) (n : NOk M L N) (ht : SAny t) : In N 14000000 (Ke.bef S x y t).s ∧ In N 14000000 (Ke.bef S x y t).w ∧ (Ke.bef S x y t).room = (S.st y).room := by
  unfold Ke.bef
  split
  · rename_i c
    obtain ⟨a, b⟩ := hx.out_in n ht
    exact ⟨a, b, by rw [c] <;> rfl⟩
  · exact ⟨(hy.inS n).mono (by decide +kernel), (hy.inW n).mono (by decide +kernel), rfl⟩
/-- from itself into itself there is always room -/
theorem self_fits {S : KS} {x : Str} (hx : KOk M L (S.st x)) (ok : ShOk t) (og : g = 0 ∨ ShOk g) : ¬ (Ke.bef S x x t).full ((S.st x).s * t * g) ((S.st x).w * t * g) := by
  obtain ⟨t0, t1⟩ := sh01 ok
  have g01 : 0 ≤ g ∧ g ≤ 1 := by
    rcases og with e | og
    · rw [e]; exact ⟨Rat.le_refl, by decide +kernel⟩
    · obtain ⟨a, b⟩ := sh01 og; constructor <;> grind
  obtain ⟨p1, p2, p3, p4, _, _⟩ := hx.part (t := t) (by grind) (by grind)
  have a := mul_le' p1 g01.1 g01.2
  have b := mul_le' p3 g01.1 g01.2
  have v := hx.vol
  unfold Ke.bef
  rw [if_pos rfl]
  intro z
  have z : ((S.st x).room : Rat) < (S.st x).s * (1 - t) + (S.st x).s * t * g + ((S.st x).w * (1 - t) + (S.st x).w * t * g) := z
  have e1 : (S.st x).s * (1 - t) = (S.st x).s - (S.st x).s * t := by grind
  have e2 : (S.st x).w * (1 - t) = (S.st x).w - (S.st x).w * t := by grind
  rw [e1, e2] at z
  have := a.2
  have := b.2
  grind
end
theorem put_comm {S : KS} {x y : Str} {a b : Ke} (h : x ≠ y) : (S.put x a).put y b = (S.put y b).put x a := by
  unfold KS.put
  congr 1
  funext z
  show set1 (set1 S.st x a) y b z = set1 (set1 S.st y b) x a z
  by_cases e1 : z = x
  · rw [e1, set1_ne h, set1_same, set1_same]
  · by_cases e2 : z = y
    · rw [e2, set1_same, set1_ne (fun e => h e.symm), set1_same]
    · rw [set1_ne e2, set1_ne e1, set1_ne e1, set1_ne e2]
/-- a fault that the law found: the deed is refused so -/
def Flt (K : PySem.W.Frag) (H : Hp) (nms : List Str) (D : KD) (S : KS) (fv : V) : Prop := ∃ z, fv = .ref z ∧ Dtu K H 4 (.ref z) (kstep nms D S).2 ∧ (kstep nms D S).1 = S
theorem Flt.of {K : PySem.W.Frag} {H : Hp} {nms : List Str} {D : KD} {S : KS} {z : Addr} {d : PyData} (e : kstep nms D S = (S, d)) (h : Dtu K H 4 (.ref z) d) : Flt K H nms D S (.ref z) := ⟨z, rfl, by rw [e]; exact h, by rw [e]⟩
theorem refu_dtu {K : PySem.W.Frag} {H : Hp} {a : Addr} {w : Str} {v : V} {d : PyData} (h : SqT K H a [.str "refused", .str w, v]) (l1 : PyData.canLay0 (.str w) = true) (hv : Dtu K H 3 v d) : Dtu K H 4 (.ref a) (refu w d) :=
  DtuAll.tup (.cons (.str _ _ (by decide +kernel)) (.cons (.str _ _ l1) (.cons hv .nil))) h (by show 3 ≤ 100000; decide)
theorem told_dtu {K : PySem.W.Frag} {H : Hp} {a : Addr} {v : V} {d : PyData} {n : Nat} (h : SqT K H a [.str "told", v]) (hv : Dtu K H (n + 1) v d) : Dtu K H (n + 2) (.ref a) (toldD d) :=
  DtuAll.tup (.cons (.str _ _ (by decide +kernel)) (.cons hv .nil)) h (by show 2 ≤ 100000; decide)
def KLay (nms : List Str) : Prop := ∀ x ∈ nms, PyData.canLay0 (.str x) = true
theorem KNm.lay {nms : List Str} {x : Str} (h : KNm nms x) (l : KLay nms) : PyData.canLay0 (.str x) = true := by
  rcases h with h | h
  · exact l x h
  · subst h; decide +kernel
theorem nw {a b : Str} (h : a ≠ b) : decide (V.str a = V.str b) = false := decide_eq_false fun z => h (V.str.inj z)
end KR
namespace KR
open PySem PySem.Spec PyProof.Rows L2
def top (i : Nat) : Stmt := PySem.Challenge.pw_kettlerow_k21_skimmed.main.body.getD i (.Pass ⟨0, 0, 0, 0⟩)
def clsBody : Stmt → List Stmt
  | .ClassDef (body := b) .. => b
  | _ => []
abbrev s_Kettles__named : Stmt := (clsBody (top 77)).getD 17 (.Pass ⟨0, 0, 0, 0⟩)
theorem sc_Kettles__named : FnScope ["self", "name"] ["self", "name"] (defScope s_Kettles__named) := ⟨rfl, rfl, rfl, by decide +kernel, rfl, by decide +kernel, by decide +kernel⟩
abbrev s_Kettles_boiled_off : Stmt := (clsBody (top 77)).getD 15 (.Pass ⟨0, 0, 0, 0⟩)
theorem sc_Kettles_boiled_off : FnScope ["self"] ["self"] (defScope s_Kettles_boiled_off) := ⟨rfl, rfl, rfl, by decide +kernel, rfl, by decide +kernel, by decide +kernel⟩
abbrev s_Kettles_ready_at : Stmt := (clsBody (top 77)).getD 14 (.Pass ⟨0, 0, 0, 0⟩)
theorem sc_Kettles_ready_at : FnScope ["self", "kettle", "hours"] ["self", "kettle"] (defScope s_Kettles_ready_at) := ⟨rfl, rfl, rfl, by decide +kernel, rfl, by decide +kernel, by decide +kernel⟩
abbrev s_Kettles_is_ready : Stmt := (clsBody (top 77)).getD 13 (.Pass ⟨0, 0, 0, 0⟩)
theorem sc_Kettles_is_ready : FnScope ["self", "kettle"] ["self", "kettle"] (defScope s_Kettles_is_ready) := ⟨rfl, rfl, rfl, by decide +kernel, rfl, by decide +kernel, by decide +kernel⟩
abbrev s_Kettles_in_work : Stmt := (clsBody (top 77)).getD 12 (.Pass ⟨0, 0, 0, 0⟩)
theorem sc_Kettles_in_work : FnScope ["self", "kettle"] ["self", "kettle"] (defScope s_Kettles_in_work) := ⟨rfl, rfl, rfl, by decide +kernel, rfl, by decide +kernel, by decide +kernel⟩
abbrev s_Kettles_juice_of : Stmt := (clsBody (top 77)).getD 11 (.Pass ⟨0, 0, 0, 0⟩)
theorem sc_Kettles_juice_of : FnScope ["self", "kettle"] ["self", "kettle"] (defScope s_Kettles_juice_of) := ⟨rfl, rfl, rfl, by decide +kernel, rfl, by decide +kernel, by decide +kernel⟩
abbrev s_Kettles_kettle_names : Stmt := (clsBody (top 77)).getD 10 (.Pass ⟨0, 0, 0, 0⟩)
theorem sc_Kettles_kettle_names : FnScope ["self"] ["self"] (defScope s_Kettles_kettle_names) := ⟨rfl, rfl, rfl, by decide +kernel, rfl, by decide +kernel, by decide +kernel⟩
abbrev s_Kettles_hour : Stmt := (clsBody (top 77)).getD 9 (.Pass ⟨0, 0, 0, 0⟩)
theorem sc_Kettles_hour : FnScope ["self"] ["self"] (defScope s_Kettles_hour) := ⟨rfl, rfl, rfl, by decide +kernel, rfl, by decide +kernel, by decide +kernel⟩
abbrev s_Kettles_start : Stmt := (clsBody (top 77)).getD 8 (.Pass ⟨0, 0, 0, 0⟩)
theorem sc_Kettles_start : FnScope ["self", "kettle", "started"] ["self", "kettle"] (defScope s_Kettles_start) := ⟨rfl, rfl, rfl, by decide +kernel, rfl, by decide +kernel, by decide +kernel⟩
abbrev s_Kettles_stop : Stmt := (clsBody (top 77)).getD 7 (.Pass ⟨0, 0, 0, 0⟩)
theorem sc_Kettles_stop : FnScope ["self", "kettle", "stopped"] ["self", "kettle"] (defScope s_Kettles_stop) := ⟨rfl, rfl, rfl, by decide +kernel, rfl, by decide +kernel, by decide +kernel⟩
abbrev s_Kettles_skim : Stmt := (clsBody (top 77)).getD 6 (.Pass ⟨0, 0, 0, 0⟩)
theorem sc_Kettles_skim : FnScope ["self", "kettle", "share", "given", "other", "source", "into", "skimmed", "left", "poured", "before", "behind"] ["self", "kettle", "share", "given", "other"] (defScope s_Kettles_skim) := ⟨rfl, rfl, rfl, by decide +kernel, rfl, by decide +kernel, by decide +kernel⟩
abbrev s_Kettles_ladle : Stmt := (clsBody (top 77)).getD 5 (.Pass ⟨0, 0, 0, 0⟩)
theorem sc_Kettles_ladle : FnScope ["self", "one", "other", "share", "source", "into"] ["self", "one", "other", "share"] (defScope s_Kettles_ladle) := ⟨rfl, rfl, rfl, by decide +kernel, rfl, by decide +kernel, by decide +kernel⟩
abbrev s_Kettles_take_out : Stmt := (clsBody (top 77)).getD 4 (.Pass ⟨0, 0, 0, 0⟩)
theorem sc_Kettles_take_out : FnScope ["self", "kettle", "part", "source", "taken"] ["self", "kettle", "part"] (defScope s_Kettles_take_out) := ⟨rfl, rfl, rfl, by decide +kernel, rfl, by decide +kernel, by decide +kernel⟩
abbrev s_Kettles_dip : Stmt := (clsBody (top 77)).getD 3 (.Pass ⟨0, 0, 0, 0⟩)
theorem sc_Kettles_dip : FnScope ["self", "kettle", "share", "source"] ["self", "kettle", "share"] (defScope s_Kettles_dip) := ⟨rfl, rfl, rfl, by decide +kernel, rfl, by decide +kernel, by decide +kernel⟩
abbrev s_Kettles_pour : Stmt := (clsBody (top 77)).getD 2 (.Pass ⟨0, 0, 0, 0⟩)
theorem sc_Kettles_pour : FnScope ["self", "kettle", "juice", "into"] ["self", "kettle", "juice"] (defScope s_Kettles_pour) := ⟨rfl, rfl, rfl, by decide +kernel, rfl, by decide +kernel, by decide +kernel⟩
abbrev s_Kettles_boil_on : Stmt := (clsBody (top 77)).getD 1 (.Pass ⟨0, 0, 0, 0⟩)
theorem sc_Kettles_boil_on : FnScope ["self", "hours", "kettle"] ["self", "hours"] (defScope s_Kettles_boil_on) := ⟨rfl, rfl, rfl, by decide +kernel, rfl, by decide +kernel, by decide +kernel⟩
abbrev s_Kettles_init : Stmt := (clsBody (top 77)).getD 0 (.Pass ⟨0, 0, 0, 0⟩)
theorem sc_Kettles_init : FnScope ["self", "row", "name", "room", "fire", "mark"] ["self", "row"] (defScope s_Kettles_init) := ⟨rfl, rfl, rfl, by decide +kernel, rfl, by decide +kernel, by decide +kernel⟩
abbrev s_Kettle_hours_to_mark : Stmt := (clsBody (top 49)).getD 3 (.Pass ⟨0, 0, 0, 0⟩)
theorem sc_Kettle_hours_to_mark : FnScope ["self", "fire"] ["self"] (defScope s_Kettle_hours_to_mark) := ⟨rfl, rfl, rfl, by decide +kernel, rfl, by decide +kernel, by decide +kernel⟩
abbrev s_Kettle_is_at_mark : Stmt := (clsBody (top 49)).getD 2 (.Pass ⟨0, 0, 0, 0⟩)
theorem sc_Kettle_is_at_mark : FnScope ["self"] ["self"] (defScope s_Kettle_is_at_mark) := ⟨rfl, rfl, rfl, by decide +kernel, rfl, by decide +kernel, by decide +kernel⟩
abbrev s_Kettle_boil : Stmt := (clsBody (top 49)).getD 1 (.Pass ⟨0, 0, 0, 0⟩)
theorem sc_Kettle_boil : FnScope ["self", "hours", "water"] ["self", "hours"] (defScope s_Kettle_boil) := ⟨rfl, rfl, rfl, by decide +kernel, rfl, by decide +kernel, by decide +kernel⟩
abbrev s_Kettle_init : Stmt := (clsBody (top 49)).getD 0 (.Pass ⟨0, 0, 0, 0⟩)
theorem sc_Kettle_init : FnScope ["self", "room", "fire", "mark"] ["self", "room", "fire", "mark"] (defScope s_Kettle_init) := ⟨rfl, rfl, rfl, by decide +kernel, rfl, by decide +kernel, by decide +kernel⟩
abbrev s_SameRow_init : Stmt := (clsBody (top 62)).getD 0 (.Pass ⟨0, 0, 0, 0⟩)
theorem sc_SameRow_init : FnScope ["self", "row"] ["self", "row"] (defScope s_SameRow_init) := ⟨rfl, rfl, rfl, by decide +kernel, rfl, by decide +kernel, by decide +kernel⟩
abbrev s_Row_init : Stmt := (clsBody (top 61)).getD 0 (.Pass ⟨0, 0, 0, 0⟩)
theorem sc_Row_init : FnScope ["self", "kettles", "moulds"] ["self", "kettles", "moulds"] (defScope s_Row_init) := ⟨rfl, rfl, rfl, by decide +kernel, rfl, by decide +kernel, by decide +kernel⟩
abbrev s_p_is_number : Stmt := top 25
theorem sc_p_is_number : FnScope ["thing"] ["thing"] (defScope s_p_is_number) := ⟨rfl, rfl, rfl, by decide +kernel, rfl, by decide +kernel, by decide +kernel⟩
abbrev s_p_is_number_within : Stmt := top 26
theorem sc_p_is_number_within : FnScope ["thing", "least", "most"] ["thing", "least", "most"] (defScope s_p_is_number_within) := ⟨rfl, rfl, rfl, by decide +kernel, rfl, by decide +kernel, by decide +kernel⟩
abbrev s_p_is_frac : Stmt := top 30
theorem sc_p_is_frac : FnScope ["thing", "top", "bottom"] ["thing"] (defScope s_p_is_frac) := ⟨rfl, rfl, rfl, by decide +kernel, rfl, by decide +kernel, by decide +kernel⟩
abbrev s_p_frac_of : Stmt := top 31
theorem sc_p_frac_of : FnScope ["top", "bottom", "common"] ["top", "bottom"] (defScope s_p_frac_of) := ⟨rfl, rfl, rfl, by decide +kernel, rfl, by decide +kernel, by decide +kernel⟩
abbrev s_p_sum_of : Stmt := top 32
theorem sc_p_sum_of : FnScope ["one", "other"] ["one", "other"] (defScope s_p_sum_of) := ⟨rfl, rfl, rfl, by decide +kernel, rfl, by decide +kernel, by decide +kernel⟩
abbrev s_p_difference : Stmt := top 33
theorem sc_p_difference : FnScope ["one", "other"] ["one", "other"] (defScope s_p_difference) := ⟨rfl, rfl, rfl, by decide +kernel, rfl, by decide +kernel, by decide +kernel⟩
abbrev s_p_product : Stmt := top 34
theorem sc_p_product : FnScope ["one", "other"] ["one", "other"] (defScope s_p_product) := ⟨rfl, rfl, rfl, by decide +kernel, rfl, by decide +kernel, by decide +kernel⟩
abbrev s_p_quotient : Stmt := top 35
theorem sc_p_quotient : FnScope ["one", "other"] ["one", "other"] (defScope s_p_quotient) := ⟨rfl, rfl, rfl, by decide +kernel, rfl, by decide +kernel, by decide +kernel⟩
abbrev s_p_is_lesser : Stmt := top 36
theorem sc_p_is_lesser : FnScope ["one", "other"] ["one", "other"] (defScope s_p_is_lesser) := ⟨rfl, rfl, rfl, by decide +kernel, rfl, by decide +kernel, by decide +kernel⟩
abbrev s_p_mixed : Stmt := top 39
theorem sc_p_mixed : FnScope ["one", "other"] ["one", "other"] (defScope s_p_mixed) := ⟨rfl, rfl, rfl, by decide +kernel, rfl, by decide +kernel, by decide +kernel⟩
abbrev s_p_share_of : Stmt := top 40
theorem sc_p_share_of : FnScope ["juice", "share"] ["juice", "share"] (defScope s_p_share_of) := ⟨rfl, rfl, rfl, by decide +kernel, rfl, by decide +kernel, by decide +kernel⟩
abbrev s_p_rest_of : Stmt := top 41
theorem sc_p_rest_of : FnScope ["juice", "share"] ["juice", "share"] (defScope s_p_rest_of) := ⟨rfl, rfl, rfl, by decide +kernel, rfl, by decide +kernel, by decide +kernel⟩
abbrev s_p_volume_of : Stmt := top 42
theorem sc_p_volume_of : FnScope ["juice"] ["juice"] (defScope s_p_volume_of) := ⟨rfl, rfl, rfl, by decide +kernel, rfl, by decide +kernel, by decide +kernel⟩
abbrev s_p_strength_of : Stmt := top 43
theorem sc_p_strength_of : FnScope ["juice", "volume"] ["juice"] (defScope s_p_strength_of) := ⟨rfl, rfl, rfl, by decide +kernel, rfl, by decide +kernel, by decide +kernel⟩
abbrev s_p_water_at : Stmt := top 45
theorem sc_p_water_at : FnScope ["sugar", "mark"] ["sugar", "mark"] (defScope s_p_water_at) := ⟨rfl, rfl, rfl, by decide +kernel, rfl, by decide +kernel, by decide +kernel⟩
abbrev s_p_boiled_down : Stmt := top 46
theorem sc_p_boiled_down : FnScope ["juice", "fire", "mark", "hours", "sugar", "water", "least", "left"] ["juice", "fire", "mark", "hours"] (defScope s_p_boiled_down) := ⟨rfl, rfl, rfl, by decide +kernel, rfl, by decide +kernel, by decide +kernel⟩
abbrev s_p_ready_in : Stmt := top 47
theorem sc_p_ready_in : FnScope ["juice", "fire", "mark", "sugar", "water", "least", "above"] ["juice", "fire", "mark"] (defScope s_p_ready_in) := ⟨rfl, rfl, rfl, by decide +kernel, rfl, by decide +kernel, by decide +kernel⟩
abbrev s_p_is_name : Stmt := top 52
theorem sc_p_is_name : FnScope ["thing", "letter"] ["thing"] (defScope s_p_is_name) := ⟨rfl, rfl, rfl, by decide +kernel, rfl, by decide +kernel, by decide +kernel⟩
abbrev s_p_are_unlike : Stmt := top 53
theorem sc_p_are_unlike : FnScope ["names"] ["names"] (defScope s_p_are_unlike) := ⟨rfl, rfl, rfl, by decide +kernel, rfl, by decide +kernel, by decide +kernel⟩
abbrev s_p_is_kettle : Stmt := top 63
theorem sc_p_is_kettle : FnScope ["thing", "name", "room", "fire", "mark"] ["thing"] (defScope s_p_is_kettle) := ⟨rfl, rfl, rfl, by decide +kernel, rfl, by decide +kernel, by decide +kernel⟩
abbrev s_p_is_mould : Stmt := top 64
theorem sc_p_is_mould : FnScope ["thing", "name", "room", "drip"] ["thing"] (defScope s_p_is_mould) := ⟨rfl, rfl, rfl, by decide +kernel, rfl, by decide +kernel, by decide +kernel⟩
abbrev s_p__can_be_kettles : Stmt := top 65
theorem sc_p__can_be_kettles : FnScope ["things", "thing"] ["things"] (defScope s_p__can_be_kettles) := ⟨rfl, rfl, rfl, by decide +kernel, rfl, by decide +kernel, by decide +kernel⟩
abbrev s_p__can_be_moulds : Stmt := top 66
theorem sc_p__can_be_moulds : FnScope ["things", "kettles", "thing", "one"] ["things", "kettles"] (defScope s_p__can_be_moulds) := ⟨rfl, rfl, rfl, by decide +kernel, rfl, by decide +kernel, by decide +kernel⟩
abbrev s_p__are_name_and_room : Stmt := top 67
theorem sc_p__are_name_and_room : FnScope ["name", "room"] ["name", "room"] (defScope s_p__are_name_and_room) := ⟨rfl, rfl, rfl, by decide +kernel, rfl, by decide +kernel, by decide +kernel⟩
abbrev s_p__is_mark : Stmt := top 68
theorem sc_p__is_mark : FnScope ["thing"] ["thing"] (defScope s_p__is_mark) := ⟨rfl, rfl, rfl, by decide +kernel, rfl, by decide +kernel, by decide +kernel⟩
abbrev s_p__is_drip : Stmt := top 69
theorem sc_p__is_drip : FnScope ["thing"] ["thing"] (defScope s_p__is_drip) := ⟨rfl, rfl, rfl, by decide +kernel, rfl, by decide +kernel, by decide +kernel⟩
abbrev s_p_need_share : Stmt := top 72
theorem sc_p_need_share : FnScope ["share", "top", "bottom"] ["share"] (defScope s_p_need_share) := ⟨rfl, rfl, rfl, by decide +kernel, rfl, by decide +kernel, by decide +kernel⟩
abbrev s_p_need_some : Stmt := top 74
theorem sc_p_need_some : FnScope ["name", "juice"] ["name", "juice"] (defScope s_p_need_some) := ⟨rfl, rfl, rfl, by decide +kernel, rfl, by decide +kernel, by decide +kernel⟩
abbrev s_p_poured_into : Stmt := top 75
theorem sc_p_poured_into : FnScope ["name", "room", "juice", "more", "whole"] ["name", "room", "juice", "more"] (defScope s_p_poured_into) := ⟨rfl, rfl, rfl, by decide +kernel, rfl, by decide +kernel, by decide +kernel⟩
abbrev s_l_cell_at : Stmt := top 79
theorem sc_l_cell_at : FnScope ["_law_script", "_law_k"] ["_law_script", "_law_k"] (defScope s_l_cell_at) := ⟨rfl, rfl, rfl, by decide +kernel, rfl, by decide +kernel, by decide +kernel⟩
abbrev s_l_box : Stmt := top 80
theorem sc_l_box : FnScope ["_law_script", "_law_k", "_law_cell"] ["_law_script", "_law_k"] (defScope s_l_box) := ⟨rfl, rfl, rfl, by decide +kernel, rfl, by decide +kernel, by decide +kernel⟩
abbrev s_l_take : Stmt := top 81
theorem sc_l_take : FnScope ["_law_box_here", "_law_many", "_law_found", "_law_once", "_law_twice"] ["_law_box_here", "_law_many"] (defScope s_l_take) := ⟨rfl, rfl, rfl, by decide +kernel, rfl, by decide +kernel, by decide +kernel⟩
abbrev s_l_names : Stmt := top 82
theorem sc_l_names : FnScope ["_law_box_here", "_law_many", "_law_letters", "_law_found", "_law_some", "_law_first", "_law_step_here", "_law_stem", "_law_tail", "_law_k", "_law_one", "_law_other", "_law_name_here"] ["_law_box_here", "_law_many"] (defScope s_l_names) := ⟨rfl, rfl, rfl, by decide +kernel, rfl, by decide +kernel, by decide +kernel⟩
abbrev s_l_low : Stmt := top 83
theorem sc_l_low : FnScope ["_law_top", "_law_bottom", "_law_one", "_law_other"] ["_law_top", "_law_bottom"] (defScope s_l_low) := ⟨rfl, rfl, rfl, by decide +kernel, rfl, by decide +kernel, by decide +kernel⟩
abbrev s_l_plus : Stmt := top 84
theorem sc_l_plus : FnScope ["_law_one", "_law_other"] ["_law_one", "_law_other"] (defScope s_l_plus) := ⟨rfl, rfl, rfl, by decide +kernel, rfl, by decide +kernel, by decide +kernel⟩
abbrev s_l_by : Stmt := top 85
theorem sc_l_by : FnScope ["_law_one", "_law_other"] ["_law_one", "_law_other"] (defScope s_l_by) := ⟨rfl, rfl, rfl, by decide +kernel, rfl, by decide +kernel, by decide +kernel⟩
abbrev s_l_share : Stmt := top 86
theorem sc_l_share : FnScope ["_law_box_here", "_law_bottom"] ["_law_box_here"] (defScope s_l_share) := ⟨rfl, rfl, rfl, by decide +kernel, rfl, by decide +kernel, by decide +kernel⟩
abbrev s_l_row : Stmt := top 87
theorem sc_l_row : FnScope ["_law_box_here", "_law_kettles", "_law_moulds", "_law_names_here", "_law_found", "_law_others", "_law_name_here", "_law_bottom", "_law_mark", "_law_room"] ["_law_box_here", "_law_kettles", "_law_moulds"] (defScope s_l_row) := ⟨rfl, rfl, rfl, by decide +kernel, rfl, by decide +kernel, by decide +kernel⟩
abbrev s_l_same : Stmt := top 88
theorem sc_l_same : FnScope ["_law_found", "_law_due_here", "_law_one", "_law_other"] ["_law_found", "_law_due_here"] (defScope s_l_same) := ⟨rfl, rfl, rfl, by decide +kernel, rfl, by decide +kernel, by decide +kernel⟩
abbrev s_l_minus : Stmt := top 89
theorem sc_l_minus : FnScope ["_law_one", "_law_other"] ["_law_one", "_law_other"] (defScope s_l_minus) := ⟨rfl, rfl, rfl, by decide +kernel, rfl, by decide +kernel, by decide +kernel⟩
abbrev s_l_less : Stmt := top 90
theorem sc_l_less : FnScope ["_law_one", "_law_other"] ["_law_one", "_law_other"] (defScope s_l_less) := ⟨rfl, rfl, rfl, by decide +kernel, rfl, by decide +kernel, by decide +kernel⟩
abbrev s_l_begun : Stmt := top 91
theorem sc_l_begun : FnScope ["_law_box_here", "_law_many", "_law_rows", "_law_others", "_law_state", "_law_name_here", "_law_room", "_law_fire", "_law_mark"] ["_law_box_here", "_law_many"] (defScope s_l_begun) := ⟨rfl, rfl, rfl, by decide +kernel, rfl, by decide +kernel, by decide +kernel⟩
abbrev s_l_least : Stmt := top 92
theorem sc_l_least : FnScope ["_law_row_here"] ["_law_row_here"] (defScope s_l_least) := ⟨rfl, rfl, rfl, by decide +kernel, rfl, by decide +kernel, by decide +kernel⟩
abbrev s_l_boil : Stmt := top 93
theorem sc_l_boil : FnScope ["_law_state", "_law_hours", "_law_row_here", "_law_least_here", "_law_water", "_law_left"] ["_law_state", "_law_hours"] (defScope s_l_boil) := ⟨rfl, rfl, rfl, by decide +kernel, rfl, by decide +kernel, by decide +kernel⟩
abbrev s_l_fits : Stmt := top 94
theorem sc_l_fits : FnScope ["_law_row_here", "_law_juice_here", "_law_volume"] ["_law_row_here", "_law_juice_here"] (defScope s_l_fits) := ⟨rfl, rfl, rfl, by decide +kernel, rfl, by decide +kernel, by decide +kernel⟩
abbrev s_l_in : Stmt := top 95
theorem sc_l_in : FnScope ["_law_row_here", "_law_juice_here"] ["_law_row_here", "_law_juice_here"] (defScope s_l_in) := ⟨rfl, rfl, rfl, by decide +kernel, rfl, by decide +kernel, by decide +kernel⟩
abbrev s_l_part : Stmt := top 96
theorem sc_l_part : FnScope ["_law_row_here", "_law_share_here"] ["_law_row_here", "_law_share_here"] (defScope s_l_part) := ⟨rfl, rfl, rfl, by decide +kernel, rfl, by decide +kernel, by decide +kernel⟩
abbrev s_l_out : Stmt := top 97
theorem sc_l_out : FnScope ["_law_row_here", "_law_share_here", "_law_juice_here"] ["_law_row_here", "_law_share_here"] (defScope s_l_out) := ⟨rfl, rfl, rfl, by decide +kernel, rfl, by decide +kernel, by decide +kernel⟩
abbrev s_l_is_share : Stmt := top 98
theorem sc_l_is_share : FnScope ["_law_share_here"] ["_law_share_here"] (defScope s_l_is_share) := ⟨rfl, rfl, rfl, by decide +kernel, rfl, by decide +kernel, by decide +kernel⟩
abbrev s_l_dip_fault : Stmt := top 99
theorem sc_l_dip_fault : FnScope ["_law_state", "_law_kettle", "_law_share_here", "_law_row_here"] ["_law_state", "_law_kettle", "_law_share_here"] (defScope s_l_dip_fault) := ⟨rfl, rfl, rfl, by decide +kernel, rfl, by decide +kernel, by decide +kernel⟩
abbrev s_l_name_fault : Stmt := top 100
theorem sc_l_name_fault : FnScope ["_law_state", "_law_names_here", "_law_name_here"] ["_law_state", "_law_names_here"] (defScope s_l_name_fault) := ⟨rfl, rfl, rfl, by decide +kernel, rfl, by decide +kernel, by decide +kernel⟩
abbrev s_l_ladled : Stmt := top 101
theorem sc_l_ladled : FnScope ["_law_state", "_law_deed_here", "_law_word", "_law_one", "_law_other", "_law_share_here", "_law_fault", "_law_juice_here"] ["_law_state", "_law_deed_here"] (defScope s_l_ladled) := ⟨rfl, rfl, rfl, by decide +kernel, rfl, by decide +kernel, by decide +kernel⟩
abbrev s_l_skimmed : Stmt := top 102
theorem sc_l_skimmed : FnScope ["_law_state", "_law_deed_here", "_law_word", "_law_kettle", "_law_share_here", "_law_given", "_law_other", "_law_fault", "_law_juice_here", "_law_poured"] ["_law_state", "_law_deed_here"] (defScope s_l_skimmed) := ⟨rfl, rfl, rfl, by decide +kernel, rfl, by decide +kernel, by decide +kernel⟩
abbrev s_l_due : Stmt := top 103
theorem sc_l_due : FnScope ["_law_state", "_law_deed_here", "_law_word", "_law_kettle", "_law_fault", "_law_row_here"] ["_law_state", "_law_deed_here"] (defScope s_l_due) := ⟨rfl, rfl, rfl, by decide +kernel, rfl, by decide +kernel, by decide +kernel⟩
abbrev s_l_ask : Stmt := top 104
theorem sc_l_ask : FnScope ["_law_kettles", "_law_deed_here", "_law_word", "_law_one"] ["_law_kettles", "_law_deed_here"] (defScope s_l_ask) := ⟨rfl, rfl, rfl, by decide +kernel, rfl, by decide +kernel, by decide +kernel⟩
abbrev s_l_told : Stmt := top 105
theorem sc_l_told : FnScope ["_law_kettles", "_law_deed_here", "_law_caught", "_law_found", "error", "_law_kinds", "_law_odd", "_law_words"] ["_law_kettles", "_law_deed_here"] (defScope s_l_told) := ⟨rfl, rfl, rfl, by decide +kernel, rfl, by decide +kernel, by decide +kernel⟩
abbrev s_l_ready : Stmt := top 106
theorem sc_l_ready : FnScope ["_law_state", "_law_row_here", "_law_over"] ["_law_state", "_law_row_here"] (defScope s_l_ready) := ⟨rfl, rfl, rfl, by decide +kernel, rfl, by decide +kernel, by decide +kernel⟩
abbrev s_l_stands : Stmt := top 107
theorem sc_l_stands : FnScope ["_law_kettles", "_law_state", "_law_name_here", "_law_row_here", "_law_found", "_law_just"] ["_law_kettles", "_law_state"] (defScope s_l_stands) := ⟨rfl, rfl, rfl, by decide +kernel, rfl, by decide +kernel, by decide +kernel⟩
abbrev s_l_amount : Stmt := top 108
theorem sc_l_amount : FnScope ["_law_box_here", "_law_most", "_law_way", "_law_bottom"] ["_law_box_here", "_law_most"] (defScope s_l_amount) := ⟨rfl, rfl, rfl, by decide +kernel, rfl, by decide +kernel, by decide +kernel⟩
abbrev s_l_juice : Stmt := top 109
theorem sc_l_juice : FnScope ["_law_box_here", "_law_row_here", "_law_most", "_law_sugar", "_law_water", "_law_just"] ["_law_box_here", "_law_row_here"] (defScope s_l_juice) := ⟨rfl, rfl, rfl, by decide +kernel, rfl, by decide +kernel, by decide +kernel⟩
abbrev s_l_some_share : Stmt := top 110
theorem sc_l_some_share : FnScope ["_law_box_here", "_law_share_here", "_law_odd"] ["_law_box_here"] (defScope s_l_some_share) := ⟨rfl, rfl, rfl, by decide +kernel, rfl, by decide +kernel, by decide +kernel⟩
abbrev s_l_name : Stmt := top 111
theorem sc_l_name : FnScope ["_law_box_here", "_law_state", "_law_names_here"] ["_law_box_here", "_law_state"] (defScope s_l_name) := ⟨rfl, rfl, rfl, by decide +kernel, rfl, by decide +kernel, by decide +kernel⟩
abbrev s_l_deed : Stmt := top 112
theorem sc_l_deed : FnScope ["_law_box_here", "_law_state", "_law_some", "_law_word", "_law_kettle", "_law_other", "_law_given"] ["_law_box_here", "_law_state", "_law_some"] (defScope s_l_deed) := ⟨rfl, rfl, rfl, by decide +kernel, rfl, by decide +kernel, by decide +kernel⟩
abbrev s_l_step : Stmt := top 113
theorem sc_l_step : FnScope ["_law_box_here", "_law_kettles", "_law_state", "_law_some", "_law_deed_here", "_law_due_here"] ["_law_box_here", "_law_kettles", "_law_state", "_law_some"] (defScope s_l_step) := ⟨rfl, rfl, rfl, by decide +kernel, rfl, by decide +kernel, by decide +kernel⟩
abbrev s_p_law : Stmt := top 114
theorem sc_p_law : FnScope ["_law_script", "_law_k", "_law_box_here", "_law_kettles", "_law_state", "_law_turn"] ["_law_script"] (defScope s_p_law) := ⟨rfl, rfl, rfl, by decide +kernel, rfl, by decide +kernel, by decide +kernel⟩
abbrev s_init_NoKettle : Stmt := (clsBody (top 9)).getD 0 (.Pass ⟨0, 0, 0, 0⟩)
theorem sc_init_NoKettle : FnScope ["self", "what"] ["self", "what"] (defScope s_init_NoKettle) := ⟨rfl, rfl, rfl, by decide +kernel, rfl, by decide +kernel, by decide +kernel⟩
abbrev s_init_NoRoom : Stmt := (clsBody (top 12)).getD 0 (.Pass ⟨0, 0, 0, 0⟩)
theorem sc_init_NoRoom : FnScope ["self", "what"] ["self", "what"] (defScope s_init_NoRoom) := ⟨rfl, rfl, rfl, by decide +kernel, rfl, by decide +kernel, by decide +kernel⟩
abbrev s_init_NoShare : Stmt := (clsBody (top 11)).getD 0 (.Pass ⟨0, 0, 0, 0⟩)
theorem sc_init_NoShare : FnScope ["self", "what"] ["self", "what"] (defScope s_init_NoShare) := ⟨rfl, rfl, rfl, by decide +kernel, rfl, by decide +kernel, by decide +kernel⟩
abbrev s_init_Empty : Stmt := (clsBody (top 16)).getD 0 (.Pass ⟨0, 0, 0, 0⟩)
theorem sc_init_Empty : FnScope ["self", "what"] ["self", "what"] (defScope s_init_Empty) := ⟨rfl, rfl, rfl, by decide +kernel, rfl, by decide +kernel, by decide +kernel⟩
abbrev s_init_Same : Stmt := (clsBody (top 17)).getD 0 (.Pass ⟨0, 0, 0, 0⟩)
theorem sc_init_Same : FnScope ["self", "what"] ["self", "what"] (defScope s_init_Same) := ⟨rfl, rfl, rfl, by decide +kernel, rfl, by decide +kernel, by decide +kernel⟩
abbrev s_init_Stopped : Stmt := (clsBody (top 18)).getD 0 (.Pass ⟨0, 0, 0, 0⟩)
theorem sc_init_Stopped : FnScope ["self", "what"] ["self", "what"] (defScope s_init_Stopped) := ⟨rfl, rfl, rfl, by decide +kernel, rfl, by decide +kernel, by decide +kernel⟩
abbrev s_init_InWork : Stmt := (clsBody (top 19)).getD 0 (.Pass ⟨0, 0, 0, 0⟩)
theorem sc_init_InWork : FnScope ["self", "what"] ["self", "what"] (defScope s_init_InWork) := ⟨rfl, rfl, rfl, by decide +kernel, rfl, by decide +kernel, by decide +kernel⟩
structure All (K : PySem.W.Frag) (mg : Str → Option Value) where
  f_Kettles__named : Addr
  fd_Kettles__named : FuncData
  F_Kettles__named : Fun K "_named" "Kettles._named" s_Kettles__named f_Kettles__named fd_Kettles__named
  b_Kettles__named : Binds K fd_Kettles__named ["self", "name"] []
  f_Kettles_boiled_off : Addr
  fd_Kettles_boiled_off : FuncData
  F_Kettles_boiled_off : Fun K "boiled_off" "Kettles.boiled_off" s_Kettles_boiled_off f_Kettles_boiled_off fd_Kettles_boiled_off
  b_Kettles_boiled_off : Binds K fd_Kettles_boiled_off ["self"] []
  f_Kettles_ready_at : Addr
  fd_Kettles_ready_at : FuncData
  F_Kettles_ready_at : Fun K "ready_at" "Kettles.ready_at" s_Kettles_ready_at f_Kettles_ready_at fd_Kettles_ready_at
  b_Kettles_ready_at : Binds K fd_Kettles_ready_at ["self", "kettle"] []
  f_Kettles_is_ready : Addr
  fd_Kettles_is_ready : FuncData
  F_Kettles_is_ready : Fun K "is_ready" "Kettles.is_ready" s_Kettles_is_ready f_Kettles_is_ready fd_Kettles_is_ready
  b_Kettles_is_ready : Binds K fd_Kettles_is_ready ["self", "kettle"] []
  f_Kettles_in_work : Addr
  fd_Kettles_in_work : FuncData
  F_Kettles_in_work : Fun K "in_work" "Kettles.in_work" s_Kettles_in_work f_Kettles_in_work fd_Kettles_in_work
  b_Kettles_in_work : Binds K fd_Kettles_in_work ["self", "kettle"] []
  f_Kettles_juice_of : Addr
  fd_Kettles_juice_of : FuncData
  F_Kettles_juice_of : Fun K "juice_of" "Kettles.juice_of" s_Kettles_juice_of f_Kettles_juice_of fd_Kettles_juice_of
  b_Kettles_juice_of : Binds K fd_Kettles_juice_of ["self", "kettle"] []
  f_Kettles_kettle_names : Addr
  fd_Kettles_kettle_names : FuncData
  F_Kettles_kettle_names : Fun K "kettle_names" "Kettles.kettle_names" s_Kettles_kettle_names f_Kettles_kettle_names fd_Kettles_kettle_names
  b_Kettles_kettle_names : Binds K fd_Kettles_kettle_names ["self"] []
  f_Kettles_hour : Addr
  fd_Kettles_hour : FuncData
  F_Kettles_hour : Fun K "hour" "Kettles.hour" s_Kettles_hour f_Kettles_hour fd_Kettles_hour
  b_Kettles_hour : Binds K fd_Kettles_hour ["self"] []
  f_Kettles_start : Addr
  fd_Kettles_start : FuncData
  F_Kettles_start : Fun K "start" "Kettles.start" s_Kettles_start f_Kettles_start fd_Kettles_start
  b_Kettles_start : Binds K fd_Kettles_start ["self", "kettle"] []
  f_Kettles_stop : Addr
  fd_Kettles_stop : FuncData
  F_Kettles_stop : Fun K "stop" "Kettles.stop" s_Kettles_stop f_Kettles_stop fd_Kettles_stop
  b_Kettles_stop : Binds K fd_Kettles_stop ["self", "kettle"] []
  f_Kettles_skim : Addr
  fd_Kettles_skim : FuncData
  F_Kettles_skim : Fun K "skim" "Kettles.skim" s_Kettles_skim f_Kettles_skim fd_Kettles_skim
  b_Kettles_skim : Binds K fd_Kettles_skim ["self", "kettle", "share", "given", "other"] []
  f_Kettles_ladle : Addr
  fd_Kettles_ladle : FuncData
  F_Kettles_ladle : Fun K "ladle" "Kettles.ladle" s_Kettles_ladle f_Kettles_ladle fd_Kettles_ladle
  b_Kettles_ladle : Binds K fd_Kettles_ladle ["self", "one", "other", "share"] []
  f_Kettles_take_out : Addr
  fd_Kettles_take_out : FuncData
  F_Kettles_take_out : Fun K "take_out" "Kettles.take_out" s_Kettles_take_out f_Kettles_take_out fd_Kettles_take_out
  b_Kettles_take_out : Binds K fd_Kettles_take_out ["self", "kettle", "part"] []
  f_Kettles_dip : Addr
  fd_Kettles_dip : FuncData
  F_Kettles_dip : Fun K "dip" "Kettles.dip" s_Kettles_dip f_Kettles_dip fd_Kettles_dip
  b_Kettles_dip : Binds K fd_Kettles_dip ["self", "kettle", "share"] []
  f_Kettles_pour : Addr
  fd_Kettles_pour : FuncData
  F_Kettles_pour : Fun K "pour" "Kettles.pour" s_Kettles_pour f_Kettles_pour fd_Kettles_pour
  b_Kettles_pour : Binds K fd_Kettles_pour ["self", "kettle", "juice"] []
  f_Kettles_boil_on : Addr
  fd_Kettles_boil_on : FuncData
  F_Kettles_boil_on : Fun K "boil_on" "Kettles.boil_on" s_Kettles_boil_on f_Kettles_boil_on fd_Kettles_boil_on
  b_Kettles_boil_on : Binds K fd_Kettles_boil_on ["self", "hours"] []
  f_Kettles_init : Addr
  fd_Kettles_init : FuncData
  F_Kettles_init : Fun K "__init__" "Kettles.__init__" s_Kettles_init f_Kettles_init fd_Kettles_init
  b_Kettles_init : Binds K fd_Kettles_init ["self", "row"] []
  f_Kettle_hours_to_mark : Addr
  fd_Kettle_hours_to_mark : FuncData
  F_Kettle_hours_to_mark : Fun K "hours_to_mark" "Kettle.hours_to_mark" s_Kettle_hours_to_mark f_Kettle_hours_to_mark fd_Kettle_hours_to_mark
  b_Kettle_hours_to_mark : Binds K fd_Kettle_hours_to_mark ["self"] []
  f_Kettle_is_at_mark : Addr
  fd_Kettle_is_at_mark : FuncData
  F_Kettle_is_at_mark : Fun K "is_at_mark" "Kettle.is_at_mark" s_Kettle_is_at_mark f_Kettle_is_at_mark fd_Kettle_is_at_mark
  b_Kettle_is_at_mark : Binds K fd_Kettle_is_at_mark ["self"] []
  f_Kettle_boil : Addr
  fd_Kettle_boil : FuncData
  F_Kettle_boil : Fun K "boil" "Kettle.boil" s_Kettle_boil f_Kettle_boil fd_Kettle_boil
  b_Kettle_boil : Binds K fd_Kettle_boil ["self", "hours"] []
  f_Kettle_init : Addr
  fd_Kettle_init : FuncData
  F_Kettle_init : Fun K "__init__" "Kettle.__init__" s_Kettle_init f_Kettle_init fd_Kettle_init
  b_Kettle_init : Binds K fd_Kettle_init ["self", "room", "fire", "mark"] []
  f_SameRow_init : Addr
  fd_SameRow_init : FuncData
  F_SameRow_init : Fun K "__init__" "SameRow.__init__" s_SameRow_init f_SameRow_init fd_SameRow_init
  b_SameRow_init : Binds K fd_SameRow_init ["self", "row"] []
  f_Row_init : Addr
  fd_Row_init : FuncData
  F_Row_init : Fun K "__init__" "Row.__init__" s_Row_init f_Row_init fd_Row_init
  b_Row_init : Binds K fd_Row_init ["self", "kettles", "moulds"] []
  f_p_is_number : Addr
  fd_p_is_number : FuncData
  d_p_is_number : Def K mg "is_number" s_p_is_number f_p_is_number fd_p_is_number ["thing"]
  f_p_is_number_within : Addr
  fd_p_is_number_within : FuncData
  d_p_is_number_within : Def K mg "is_number_within" s_p_is_number_within f_p_is_number_within fd_p_is_number_within ["thing", "least", "most"]
  f_p_is_frac : Addr
  fd_p_is_frac : FuncData
  d_p_is_frac : Def K mg "is_frac" s_p_is_frac f_p_is_frac fd_p_is_frac ["thing"]
  f_p_frac_of : Addr
  fd_p_frac_of : FuncData
  d_p_frac_of : Def K mg "frac_of" s_p_frac_of f_p_frac_of fd_p_frac_of ["top", "bottom"]
  f_p_sum_of : Addr
  fd_p_sum_of : FuncData
  d_p_sum_of : Def K mg "sum_of" s_p_sum_of f_p_sum_of fd_p_sum_of ["one", "other"]
  f_p_difference : Addr
  fd_p_difference : FuncData
  d_p_difference : Def K mg "difference" s_p_difference f_p_difference fd_p_difference ["one", "other"]
  f_p_product : Addr
  fd_p_product : FuncData
  d_p_product : Def K mg "product" s_p_product f_p_product fd_p_product ["one", "other"]
  f_p_quotient : Addr
  fd_p_quotient : FuncData
  d_p_quotient : Def K mg "quotient" s_p_quotient f_p_quotient fd_p_quotient ["one", "other"]
  f_p_is_lesser : Addr
  fd_p_is_lesser : FuncData
  d_p_is_lesser : Def K mg "is_lesser" s_p_is_lesser f_p_is_lesser fd_p_is_lesser ["one", "other"]
  f_p_mixed : Addr
  fd_p_mixed : FuncData
  d_p_mixed : Def K mg "mixed" s_p_mixed f_p_mixed fd_p_mixed ["one", "other"]
  f_p_share_of : Addr
  fd_p_share_of : FuncData
  d_p_share_of : Def K mg "share_of" s_p_share_of f_p_share_of fd_p_share_of ["juice", "share"]
  f_p_rest_of : Addr
  fd_p_rest_of : FuncData
  d_p_rest_of : Def K mg "rest_of" s_p_rest_of f_p_rest_of fd_p_rest_of ["juice", "share"]
  f_p_volume_of : Addr
  fd_p_volume_of : FuncData
  d_p_volume_of : Def K mg "volume_of" s_p_volume_of f_p_volume_of fd_p_volume_of ["juice"]
  f_p_strength_of : Addr
  fd_p_strength_of : FuncData
  d_p_strength_of : Def K mg "strength_of" s_p_strength_of f_p_strength_of fd_p_strength_of ["juice"]
  f_p_water_at : Addr
  fd_p_water_at : FuncData
  d_p_water_at : Def K mg "water_at" s_p_water_at f_p_water_at fd_p_water_at ["sugar", "mark"]
  f_p_boiled_down : Addr
  fd_p_boiled_down : FuncData
  d_p_boiled_down : Def K mg "boiled_down" s_p_boiled_down f_p_boiled_down fd_p_boiled_down ["juice", "fire", "mark", "hours"]
  f_p_ready_in : Addr
  fd_p_ready_in : FuncData
  d_p_ready_in : Def K mg "ready_in" s_p_ready_in f_p_ready_in fd_p_ready_in ["juice", "fire", "mark"]
  f_p_is_name : Addr
  fd_p_is_name : FuncData
  d_p_is_name : Def K mg "is_name" s_p_is_name f_p_is_name fd_p_is_name ["thing"]
  f_p_are_unlike : Addr
  fd_p_are_unlike : FuncData
  d_p_are_unlike : Def K mg "are_unlike" s_p_are_unlike f_p_are_unlike fd_p_are_unlike ["names"]
  f_p_is_kettle : Addr
  fd_p_is_kettle : FuncData
  d_p_is_kettle : Def K mg "is_kettle" s_p_is_kettle f_p_is_kettle fd_p_is_kettle ["thing"]
  f_p_is_mould : Addr
  fd_p_is_mould : FuncData
  d_p_is_mould : Def K mg "is_mould" s_p_is_mould f_p_is_mould fd_p_is_mould ["thing"]
  f_p__can_be_kettles : Addr
  fd_p__can_be_kettles : FuncData
  d_p__can_be_kettles : Def K mg "_can_be_kettles" s_p__can_be_kettles f_p__can_be_kettles fd_p__can_be_kettles ["things"]
  f_p__can_be_moulds : Addr
  fd_p__can_be_moulds : FuncData
  d_p__can_be_moulds : Def K mg "_can_be_moulds" s_p__can_be_moulds f_p__can_be_moulds fd_p__can_be_moulds ["things", "kettles"]
  f_p__are_name_and_room : Addr
  fd_p__are_name_and_room : FuncData
  d_p__are_name_and_room : Def K mg "_are_name_and_room" s_p__are_name_and_room f_p__are_name_and_room fd_p__are_name_and_room ["name", "room"]
  f_p__is_mark : Addr
  fd_p__is_mark : FuncData
  d_p__is_mark : Def K mg "_is_mark" s_p__is_mark f_p__is_mark fd_p__is_mark ["thing"]
  f_p__is_drip : Addr
  fd_p__is_drip : FuncData
  d_p__is_drip : Def K mg "_is_drip" s_p__is_drip f_p__is_drip fd_p__is_drip ["thing"]
  f_p_need_share : Addr
  fd_p_need_share : FuncData
  d_p_need_share : Def K mg "need_share" s_p_need_share f_p_need_share fd_p_need_share ["share"]
  f_p_need_some : Addr
  fd_p_need_some : FuncData
  d_p_need_some : Def K mg "need_some" s_p_need_some f_p_need_some fd_p_need_some ["name", "juice"]
  f_p_poured_into : Addr
  fd_p_poured_into : FuncData
  d_p_poured_into : Def K mg "poured_into" s_p_poured_into f_p_poured_into fd_p_poured_into ["name", "room", "juice", "more"]
  f_l_cell_at : Addr
  fd_l_cell_at : FuncData
  d_l_cell_at : Def K mg "_law_cell_at" s_l_cell_at f_l_cell_at fd_l_cell_at ["_law_script", "_law_k"]
  f_l_box : Addr
  fd_l_box : FuncData
  d_l_box : Def K mg "_law_box" s_l_box f_l_box fd_l_box ["_law_script", "_law_k"]
  f_l_take : Addr
  fd_l_take : FuncData
  d_l_take : Def K mg "_law_take" s_l_take f_l_take fd_l_take ["_law_box_here", "_law_many"]
  f_l_names : Addr
  fd_l_names : FuncData
  d_l_names : Def K mg "_law_names" s_l_names f_l_names fd_l_names ["_law_box_here", "_law_many"]
  f_l_low : Addr
  fd_l_low : FuncData
  d_l_low : Def K mg "_law_low" s_l_low f_l_low fd_l_low ["_law_top", "_law_bottom"]
  f_l_plus : Addr
  fd_l_plus : FuncData
  d_l_plus : Def K mg "_law_plus" s_l_plus f_l_plus fd_l_plus ["_law_one", "_law_other"]
  f_l_by : Addr
  fd_l_by : FuncData
  d_l_by : Def K mg "_law_by" s_l_by f_l_by fd_l_by ["_law_one", "_law_other"]
  f_l_share : Addr
  fd_l_share : FuncData
  d_l_share : Def K mg "_law_share" s_l_share f_l_share fd_l_share ["_law_box_here"]
  f_l_row : Addr
  fd_l_row : FuncData
  d_l_row : Def K mg "_law_row" s_l_row f_l_row fd_l_row ["_law_box_here", "_law_kettles", "_law_moulds"]
  f_l_same : Addr
  fd_l_same : FuncData
  d_l_same : Def K mg "_law_same" s_l_same f_l_same fd_l_same ["_law_found", "_law_due_here"]
  f_l_minus : Addr
  fd_l_minus : FuncData
  d_l_minus : Def K mg "_law_minus" s_l_minus f_l_minus fd_l_minus ["_law_one", "_law_other"]
  f_l_less : Addr
  fd_l_less : FuncData
  d_l_less : Def K mg "_law_less" s_l_less f_l_less fd_l_less ["_law_one", "_law_other"]
  f_l_begun : Addr
  fd_l_begun : FuncData
  d_l_begun : Def K mg "_law_begun" s_l_begun f_l_begun fd_l_begun ["_law_box_here", "_law_many"]
  f_l_least : Addr
  fd_l_least : FuncData
  d_l_least : Def K mg "_law_least" s_l_least f_l_least fd_l_least ["_law_row_here"]
  f_l_boil : Addr
  fd_l_boil : FuncData
  d_l_boil : Def K mg "_law_boil" s_l_boil f_l_boil fd_l_boil ["_law_state", "_law_hours"]
  f_l_fits : Addr
  fd_l_fits : FuncData
  d_l_fits : Def K mg "_law_fits" s_l_fits f_l_fits fd_l_fits ["_law_row_here", "_law_juice_here"]
  f_l_in : Addr
  fd_l_in : FuncData
  d_l_in : Def K mg "_law_in" s_l_in f_l_in fd_l_in ["_law_row_here", "_law_juice_here"]
  f_l_part : Addr
  fd_l_part : FuncData
  d_l_part : Def K mg "_law_part" s_l_part f_l_part fd_l_part ["_law_row_here", "_law_share_here"]
  f_l_out : Addr
  fd_l_out : FuncData
  d_l_out : Def K mg "_law_out" s_l_out f_l_out fd_l_out ["_law_row_here", "_law_share_here"]
  f_l_is_share : Addr
  fd_l_is_share : FuncData
  d_l_is_share : Def K mg "_law_is_share" s_l_is_share f_l_is_share fd_l_is_share ["_law_share_here"]
  f_l_dip_fault : Addr
  fd_l_dip_fault : FuncData
  d_l_dip_fault : Def K mg "_law_dip_fault" s_l_dip_fault f_l_dip_fault fd_l_dip_fault ["_law_state", "_law_kettle", "_law_share_here"]
  f_l_name_fault : Addr
  fd_l_name_fault : FuncData
  d_l_name_fault : Def K mg "_law_name_fault" s_l_name_fault f_l_name_fault fd_l_name_fault ["_law_state", "_law_names_here"]
  f_l_ladled : Addr
  fd_l_ladled : FuncData
  d_l_ladled : Def K mg "_law_ladled" s_l_ladled f_l_ladled fd_l_ladled ["_law_state", "_law_deed_here"]
  f_l_skimmed : Addr
  fd_l_skimmed : FuncData
  d_l_skimmed : Def K mg "_law_skimmed" s_l_skimmed f_l_skimmed fd_l_skimmed ["_law_state", "_law_deed_here"]
  f_l_due : Addr
  fd_l_due : FuncData
  d_l_due : Def K mg "_law_due" s_l_due f_l_due fd_l_due ["_law_state", "_law_deed_here"]
  f_l_ask : Addr
  fd_l_ask : FuncData
  d_l_ask : Def K mg "_law_ask" s_l_ask f_l_ask fd_l_ask ["_law_kettles", "_law_deed_here"]
  f_l_told : Addr
  fd_l_told : FuncData
  d_l_told : Def K mg "_law_told" s_l_told f_l_told fd_l_told ["_law_kettles", "_law_deed_here"]
  f_l_ready : Addr
  fd_l_ready : FuncData
  d_l_ready : Def K mg "_law_ready" s_l_ready f_l_ready fd_l_ready ["_law_state", "_law_row_here"]
  f_l_stands : Addr
  fd_l_stands : FuncData
  d_l_stands : Def K mg "_law_stands" s_l_stands f_l_stands fd_l_stands ["_law_kettles", "_law_state"]
  f_l_amount : Addr
  fd_l_amount : FuncData
  d_l_amount : Def K mg "_law_amount" s_l_amount f_l_amount fd_l_amount ["_law_box_here", "_law_most"]
  f_l_juice : Addr
  fd_l_juice : FuncData
  d_l_juice : Def K mg "_law_juice" s_l_juice f_l_juice fd_l_juice ["_law_box_here", "_law_row_here"]
  f_l_some_share : Addr
  fd_l_some_share : FuncData
  d_l_some_share : Def K mg "_law_some_share" s_l_some_share f_l_some_share fd_l_some_share ["_law_box_here"]
  f_l_name : Addr
  fd_l_name : FuncData
  d_l_name : Def K mg "_law_name" s_l_name f_l_name fd_l_name ["_law_box_here", "_law_state"]
  f_l_deed : Addr
  fd_l_deed : FuncData
  d_l_deed : Def K mg "_law_deed" s_l_deed f_l_deed fd_l_deed ["_law_box_here", "_law_state", "_law_some"]
  f_l_step : Addr
  fd_l_step : FuncData
  d_l_step : Def K mg "_law_step" s_l_step f_l_step fd_l_step ["_law_box_here", "_law_kettles", "_law_state", "_law_some"]
  f_p_law : Addr
  fd_p_law : FuncData
  d_p_law : Def K mg "law" s_p_law f_p_law fd_p_law ["_law_script"]
  b_ValueError : mg "ValueError" = none
  b_abs : mg "abs" = none
  b_all : mg "all" = none
  b_bool : mg "bool" = none
  b_dict : mg "dict" = none
  b_divmod : mg "divmod" = none
  b_int : mg "int" = none
  b_isinstance : mg "isinstance" = none
  b_len : mg "len" = none
  b_list : mg "list" = none
  b_max : mg "max" = none
  b_min : mg "min" = none
  b_range : mg "range" = none
  b_set : mg "set" = none
  b_str : mg "str" = none
  b_tuple : mg "tuple" = none
  b_zip : mg "zip" = none
  m_gcd : mg "gcd" = some (.builtin "math.gcd")
  t_MOST_LETTERS : Tok
  c_MOST_LETTERS : mg "MOST_LETTERS" = some (.int 8 t_MOST_LETTERS)
  t_MOST_KETTLES : Tok
  c_MOST_KETTLES : mg "MOST_KETTLES" = some (.int 8 t_MOST_KETTLES)
  t_MOST_MOULDS : Tok
  c_MOST_MOULDS : mg "MOST_MOULDS" = some (.int 40 t_MOST_MOULDS)
  t_MOST_ROOM : Tok
  c_MOST_ROOM : mg "MOST_ROOM" = some (.int 1000000 t_MOST_ROOM)
  t_MOST_FIRE : Tok
  c_MOST_FIRE : mg "MOST_FIRE" = some (.int 10000 t_MOST_FIRE)
  t_MOST_MARK_BOTTOM : Tok
  c_MOST_MARK_BOTTOM : mg "MOST_MARK_BOTTOM" = some (.int 60 t_MOST_MARK_BOTTOM)
  t_MOST_DRIP_BOTTOM : Tok
  c_MOST_DRIP_BOTTOM : mg "MOST_DRIP_BOTTOM" = some (.int 12 t_MOST_DRIP_BOTTOM)
  t_MOST_BOTTOM : Tok
  c_MOST_BOTTOM : mg "MOST_BOTTOM" = some (.int 12 t_MOST_BOTTOM)
  C_BoilError : Addr
  g_BoilError : mg "BoilError" = some (.ref C_BoilError)
  C_NoKettle : Addr
  g_NoKettle : mg "NoKettle" = some (.ref C_NoKettle)
  C_NoRoom : Addr
  g_NoRoom : mg "NoRoom" = some (.ref C_NoRoom)
  C_NoShare : Addr
  g_NoShare : mg "NoShare" = some (.ref C_NoShare)
  C_Empty : Addr
  g_Empty : mg "Empty" = some (.ref C_Empty)
  C_Same : Addr
  g_Same : mg "Same" = some (.ref C_Same)
  C_Stopped : Addr
  g_Stopped : mg "Stopped" = some (.ref C_Stopped)
  C_InWork : Addr
  g_InWork : mg "InWork" = some (.ref C_InWork)
  C_BadDeed : Addr
  g_BadDeed : mg "BadDeed" = some (.ref C_BadDeed)
  C_BadFrac : Addr
  g_BadFrac : mg "BadFrac" = some (.ref C_BadFrac)
  C_BadKettles : Addr
  g_BadKettles : mg "BadKettles" = some (.ref C_BadKettles)
  C_BadMoulds : Addr
  g_BadMoulds : mg "BadMoulds" = some (.ref C_BadMoulds)
  C_BadRow : Addr
  g_BadRow : mg "BadRow" = some (.ref C_BadRow)
  C_Cured : Addr
  g_Cured : mg "Cured" = some (.ref C_Cured)
  C_NoHour : Addr
  g_NoHour : mg "NoHour" = some (.ref C_NoHour)
  C_NoMould : Addr
  g_NoMould : mg "NoMould" = some (.ref C_NoMould)
  C_NoSteady : Addr
  g_NoSteady : mg "NoSteady" = some (.ref C_NoSteady)
  C_NoTelling : Addr
  g_NoTelling : mg "NoTelling" = some (.ref C_NoTelling)
  C_NotCured : Addr
  g_NotCured : mg "NotCured" = some (.ref C_NotCured)
  C_NotReady : Addr
  g_NotReady : mg "NotReady" = some (.ref C_NotReady)
  C_TooStrong : Addr
  g_TooStrong : mg "TooStrong" = some (.ref C_TooStrong)
  O_NoKettle : OexC K C_NoKettle
  fI_NoKettle : Addr
  fdI_NoKettle : FuncData
  i_NoKettle : PySem.W.findIn K (.ref C_NoKettle) "__init__" = some (some (.ref fI_NoKettle))
  tI_NoKettle : PySem.W.typeIn K (.ref fI_NoKettle) = some (.type "function")
  FI_NoKettle : Fun K "__init__" "NoKettle.__init__" s_init_NoKettle fI_NoKettle fdI_NoKettle
  bI_NoKettle : Binds K fdI_NoKettle ["self", "what"] []
  E_NoKettle : ExcFacts K C_NoKettle
  N_NoKettle : NmC K C_NoKettle "NoKettle"
  O_NoRoom : OexC K C_NoRoom
  fI_NoRoom : Addr
  fdI_NoRoom : FuncData
  i_NoRoom : PySem.W.findIn K (.ref C_NoRoom) "__init__" = some (some (.ref fI_NoRoom))
  tI_NoRoom : PySem.W.typeIn K (.ref fI_NoRoom) = some (.type "function")
  FI_NoRoom : Fun K "__init__" "NoRoom.__init__" s_init_NoRoom fI_NoRoom fdI_NoRoom
  bI_NoRoom : Binds K fdI_NoRoom ["self", "what"] []
  E_NoRoom : ExcFacts K C_NoRoom
  N_NoRoom : NmC K C_NoRoom "NoRoom"
  O_NoShare : OexC K C_NoShare
  fI_NoShare : Addr
  fdI_NoShare : FuncData
  i_NoShare : PySem.W.findIn K (.ref C_NoShare) "__init__" = some (some (.ref fI_NoShare))
  tI_NoShare : PySem.W.typeIn K (.ref fI_NoShare) = some (.type "function")
  FI_NoShare : Fun K "__init__" "NoShare.__init__" s_init_NoShare fI_NoShare fdI_NoShare
  bI_NoShare : Binds K fdI_NoShare ["self", "what"] []
  E_NoShare : ExcFacts K C_NoShare
  N_NoShare : NmC K C_NoShare "NoShare"
  O_Empty : OexC K C_Empty
  fI_Empty : Addr
  fdI_Empty : FuncData
  i_Empty : PySem.W.findIn K (.ref C_Empty) "__init__" = some (some (.ref fI_Empty))
  tI_Empty : PySem.W.typeIn K (.ref fI_Empty) = some (.type "function")
  FI_Empty : Fun K "__init__" "Empty.__init__" s_init_Empty fI_Empty fdI_Empty
  bI_Empty : Binds K fdI_Empty ["self", "what"] []
  E_Empty : ExcFacts K C_Empty
  N_Empty : NmC K C_Empty "Empty"
  O_Same : OexC K C_Same
  fI_Same : Addr
  fdI_Same : FuncData
  i_Same : PySem.W.findIn K (.ref C_Same) "__init__" = some (some (.ref fI_Same))
  tI_Same : PySem.W.typeIn K (.ref fI_Same) = some (.type "function")
  FI_Same : Fun K "__init__" "Same.__init__" s_init_Same fI_Same fdI_Same
  bI_Same : Binds K fdI_Same ["self", "what"] []
  E_Same : ExcFacts K C_Same
  N_Same : NmC K C_Same "Same"
  O_Stopped : OexC K C_Stopped
  fI_Stopped : Addr
  fdI_Stopped : FuncData
  i_Stopped : PySem.W.findIn K (.ref C_Stopped) "__init__" = some (some (.ref fI_Stopped))
  tI_Stopped : PySem.W.typeIn K (.ref fI_Stopped) = some (.type "function")
  FI_Stopped : Fun K "__init__" "Stopped.__init__" s_init_Stopped fI_Stopped fdI_Stopped
  bI_Stopped : Binds K fdI_Stopped ["self", "what"] []
  E_Stopped : ExcFacts K C_Stopped
  N_Stopped : NmC K C_Stopped "Stopped"
  O_InWork : OexC K C_InWork
  fI_InWork : Addr
  fdI_InWork : FuncData
  i_InWork : PySem.W.findIn K (.ref C_InWork) "__init__" = some (some (.ref fI_InWork))
  tI_InWork : PySem.W.typeIn K (.ref fI_InWork) = some (.type "function")
  FI_InWork : Fun K "__init__" "InWork.__init__" s_init_InWork fI_InWork fdI_InWork
  bI_InWork : Binds K fdI_InWork ["self", "what"] []
  E_InWork : ExcFacts K C_InWork
  N_InWork : NmC K C_InWork "InWork"
  te_NoKettle : PySem.W.exmOne K (.ref C_NoKettle) (.ref C_BoilError) = some true
  te_NoRoom : PySem.W.exmOne K (.ref C_NoRoom) (.ref C_BoilError) = some true
  te_NoShare : PySem.W.exmOne K (.ref C_NoShare) (.ref C_BoilError) = some true
  te_Empty : PySem.W.exmOne K (.ref C_Empty) (.ref C_BoilError) = some true
  te_Same : PySem.W.exmOne K (.ref C_Same) (.ref C_BoilError) = some true
  te_Stopped : PySem.W.exmOne K (.ref C_Stopped) (.ref C_BoilError) = some true
  te_InWork : PySem.W.exmOne K (.ref C_InWork) (.ref C_BoilError) = some true
  kk_NoKettle_NoKettle : PySem.W.kitOne K (.ref C_NoKettle) (.ref C_NoKettle) = some true
  kk_NoKettle_NoRoom : PySem.W.kitOne K (.ref C_NoKettle) (.ref C_NoRoom) = some false
  kk_NoKettle_NoShare : PySem.W.kitOne K (.ref C_NoKettle) (.ref C_NoShare) = some false
  kk_NoKettle_Empty : PySem.W.kitOne K (.ref C_NoKettle) (.ref C_Empty) = some false
  kk_NoKettle_Same : PySem.W.kitOne K (.ref C_NoKettle) (.ref C_Same) = some false
  kk_NoKettle_Stopped : PySem.W.kitOne K (.ref C_NoKettle) (.ref C_Stopped) = some false
  kk_NoKettle_InWork : PySem.W.kitOne K (.ref C_NoKettle) (.ref C_InWork) = some false
  kk_NoKettle_BadDeed : PySem.W.kitOne K (.ref C_NoKettle) (.ref C_BadDeed) = some false
  kk_NoKettle_BadFrac : PySem.W.kitOne K (.ref C_NoKettle) (.ref C_BadFrac) = some false
  kk_NoKettle_BadKettles : PySem.W.kitOne K (.ref C_NoKettle) (.ref C_BadKettles) = some false
  kk_NoKettle_BadMoulds : PySem.W.kitOne K (.ref C_NoKettle) (.ref C_BadMoulds) = some false
  kk_NoKettle_BadRow : PySem.W.kitOne K (.ref C_NoKettle) (.ref C_BadRow) = some false
  kk_NoKettle_Cured : PySem.W.kitOne K (.ref C_NoKettle) (.ref C_Cured) = some false
  kk_NoKettle_NoHour : PySem.W.kitOne K (.ref C_NoKettle) (.ref C_NoHour) = some false
  kk_NoKettle_NoMould : PySem.W.kitOne K (.ref C_NoKettle) (.ref C_NoMould) = some false
  kk_NoKettle_NoSteady : PySem.W.kitOne K (.ref C_NoKettle) (.ref C_NoSteady) = some false
  kk_NoKettle_NoTelling : PySem.W.kitOne K (.ref C_NoKettle) (.ref C_NoTelling) = some false
  kk_NoKettle_NotCured : PySem.W.kitOne K (.ref C_NoKettle) (.ref C_NotCured) = some false
  kk_NoKettle_NotReady : PySem.W.kitOne K (.ref C_NoKettle) (.ref C_NotReady) = some false
  kk_NoKettle_TooStrong : PySem.W.kitOne K (.ref C_NoKettle) (.ref C_TooStrong) = some false
  kk_NoRoom_NoKettle : PySem.W.kitOne K (.ref C_NoRoom) (.ref C_NoKettle) = some false
  kk_NoRoom_NoRoom : PySem.W.kitOne K (.ref C_NoRoom) (.ref C_NoRoom) = some true
  kk_NoRoom_NoShare : PySem.W.kitOne K (.ref C_NoRoom) (.ref C_NoShare) = some false
  kk_NoRoom_Empty : PySem.W.kitOne K (.ref C_NoRoom) (.ref C_Empty) = some false
  kk_NoRoom_Same : PySem.W.kitOne K (.ref C_NoRoom) (.ref C_Same) = some false
  kk_NoRoom_Stopped : PySem.W.kitOne K (.ref C_NoRoom) (.ref C_Stopped) = some false
  kk_NoRoom_InWork : PySem.W.kitOne K (.ref C_NoRoom) (.ref C_InWork) = some false
  kk_NoRoom_BadDeed : PySem.W.kitOne K (.ref C_NoRoom) (.ref C_BadDeed) = some false
  kk_NoRoom_BadFrac : PySem.W.kitOne K (.ref C_NoRoom) (.ref C_BadFrac) = some false
  kk_NoRoom_BadKettles : PySem.W.kitOne K (.ref C_NoRoom) (.ref C_BadKettles) = some false
  kk_NoRoom_BadMoulds : PySem.W.kitOne K (.ref C_NoRoom) (.ref C_BadMoulds) = some false
  kk_NoRoom_BadRow : PySem.W.kitOne K (.ref C_NoRoom) (.ref C_BadRow) = some false
  kk_NoRoom_Cured : PySem.W.kitOne K (.ref C_NoRoom) (.ref C_Cured) = some false
  kk_NoRoom_NoHour : PySem.W.kitOne K (.ref C_NoRoom) (.ref C_NoHour) = some false
  kk_NoRoom_NoMould : PySem.W.kitOne K (.ref C_NoRoom) (.ref C_NoMould) = some false
  kk_NoRoom_NoSteady : PySem.W.kitOne K (.ref C_NoRoom) (.ref C_NoSteady) = some false
  kk_NoRoom_NoTelling : PySem.W.kitOne K (.ref C_NoRoom) (.ref C_NoTelling) = some false
  kk_NoRoom_NotCured : PySem.W.kitOne K (.ref C_NoRoom) (.ref C_NotCured) = some false
  kk_NoRoom_NotReady : PySem.W.kitOne K (.ref C_NoRoom) (.ref C_NotReady) = some false
  kk_NoRoom_TooStrong : PySem.W.kitOne K (.ref C_NoRoom) (.ref C_TooStrong) = some false
  kk_NoShare_NoKettle : PySem.W.kitOne K (.ref C_NoShare) (.ref C_NoKettle) = some false
  kk_NoShare_NoRoom : PySem.W.kitOne K (.ref C_NoShare) (.ref C_NoRoom) = some false
  kk_NoShare_NoShare : PySem.W.kitOne K (.ref C_NoShare) (.ref C_NoShare) = some true
  kk_NoShare_Empty : PySem.W.kitOne K (.ref C_NoShare) (.ref C_Empty) = some false
  kk_NoShare_Same : PySem.W.kitOne K (.ref C_NoShare) (.ref C_Same) = some false
  kk_NoShare_Stopped : PySem.W.kitOne K (.ref C_NoShare) (.ref C_Stopped) = some false
  kk_NoShare_InWork : PySem.W.kitOne K (.ref C_NoShare) (.ref C_InWork) = some false
  kk_NoShare_BadDeed : PySem.W.kitOne K (.ref C_NoShare) (.ref C_BadDeed) = some false
  kk_NoShare_BadFrac : PySem.W.kitOne K (.ref C_NoShare) (.ref C_BadFrac) = some false
  kk_NoShare_BadKettles : PySem.W.kitOne K (.ref C_NoShare) (.ref C_BadKettles) = some false
  kk_NoShare_BadMoulds : PySem.W.kitOne K (.ref C_NoShare) (.ref C_BadMoulds) = some false
  kk_NoShare_BadRow : PySem.W.kitOne K (.ref C_NoShare) (.ref C_BadRow) = some false
  kk_NoShare_Cured : PySem.W.kitOne K (.ref C_NoShare) (.ref C_Cured) = some false
  kk_NoShare_NoHour : PySem.W.kitOne K (.ref C_NoShare) (.ref C_NoHour) = some false
  kk_NoShare_NoMould : PySem.W.kitOne K (.ref C_NoShare) (.ref C_NoMould) = some false
  kk_NoShare_NoSteady : PySem.W.kitOne K (.ref C_NoShare) (.ref C_NoSteady) = some false
  kk_NoShare_NoTelling : PySem.W.kitOne K (.ref C_NoShare) (.ref C_NoTelling) = some false
  kk_NoShare_NotCured : PySem.W.kitOne K (.ref C_NoShare) (.ref C_NotCured) = some false
  kk_NoShare_NotReady : PySem.W.kitOne K (.ref C_NoShare) (.ref C_NotReady) = some false
  kk_NoShare_TooStrong : PySem.W.kitOne K (.ref C_NoShare) (.ref C_TooStrong) = some false
  kk_Empty_NoKettle : PySem.W.kitOne K (.ref C_Empty) (.ref C_NoKettle) = some false
  kk_Empty_NoRoom : PySem.W.kitOne K (.ref C_Empty) (.ref C_NoRoom) = some false
  kk_Empty_NoShare : PySem.W.kitOne K (.ref C_Empty) (.ref C_NoShare) = some false
  kk_Empty_Empty : PySem.W.kitOne K (.ref C_Empty) (.ref C_Empty) = some true
  kk_Empty_Same : PySem.W.kitOne K (.ref C_Empty) (.ref C_Same) = some false
  kk_Empty_Stopped : PySem.W.kitOne K (.ref C_Empty) (.ref C_Stopped) = some false
  kk_Empty_InWork : PySem.W.kitOne K (.ref C_Empty) (.ref C_InWork) = some false
  kk_Empty_BadDeed : PySem.W.kitOne K (.ref C_Empty) (.ref C_BadDeed) = some false
  kk_Empty_BadFrac : PySem.W.kitOne K (.ref C_Empty) (.ref C_BadFrac) = some false
  kk_Empty_BadKettles : PySem.W.kitOne K (.ref C_Empty) (.ref C_BadKettles) = some false
  kk_Empty_BadMoulds : PySem.W.kitOne K (.ref C_Empty) (.ref C_BadMoulds) = some false
  kk_Empty_BadRow : PySem.W.kitOne K (.ref C_Empty) (.ref C_BadRow) = some false
  kk_Empty_Cured : PySem.W.kitOne K (.ref C_Empty) (.ref C_Cured) = some false
  kk_Empty_NoHour : PySem.W.kitOne K (.ref C_Empty) (.ref C_NoHour) = some false
  kk_Empty_NoMould : PySem.W.kitOne K (.ref C_Empty) (.ref C_NoMould) = some false
  kk_Empty_NoSteady : PySem.W.kitOne K (.ref C_Empty) (.ref C_NoSteady) = some false
  kk_Empty_NoTelling : PySem.W.kitOne K (.ref C_Empty) (.ref C_NoTelling) = some false
  kk_Empty_NotCured : PySem.W.kitOne K (.ref C_Empty) (.ref C_NotCured) = some false
  kk_Empty_NotReady : PySem.W.kitOne K (.ref C_Empty) (.ref C_NotReady) = some false
  kk_Empty_TooStrong : PySem.W.kitOne K (.ref C_Empty) (.ref C_TooStrong) = some false
  kk_Same_NoKettle : PySem.W.kitOne K (.ref C_Same) (.ref C_NoKettle) = some false
  kk_Same_NoRoom : PySem.W.kitOne K (.ref C_Same) (.ref C_NoRoom) = some false
  kk_Same_NoShare : PySem.W.kitOne K (.ref C_Same) (.ref C_NoShare) = some false
  kk_Same_Empty : PySem.W.kitOne K (.ref C_Same) (.ref C_Empty) = some false
  kk_Same_Same : PySem.W.kitOne K (.ref C_Same) (.ref C_Same) = some true
  kk_Same_Stopped : PySem.W.kitOne K (.ref C_Same) (.ref C_Stopped) = some false
  kk_Same_InWork : PySem.W.kitOne K (.ref C_Same) (.ref C_InWork) = some false
  kk_Same_BadDeed : PySem.W.kitOne K (.ref C_Same) (.ref C_BadDeed) = some false
  kk_Same_BadFrac : PySem.W.kitOne K (.ref C_Same) (.ref C_BadFrac) = some false
  kk_Same_BadKettles : PySem.W.kitOne K (.ref C_Same) (.ref C_BadKettles) = some false
  kk_Same_BadMoulds : PySem.W.kitOne K (.ref C_Same) (.ref C_BadMoulds) = some false
  kk_Same_BadRow : PySem.W.kitOne K (.ref C_Same) (.ref C_BadRow) = some false
  kk_Same_Cured : PySem.W.kitOne K (.ref C_Same) (.ref C_Cured) = some false
  kk_Same_NoHour : PySem.W.kitOne K (.ref C_Same) (.ref C_NoHour) = some false
  kk_Same_NoMould : PySem.W.kitOne K (.ref C_Same) (.ref C_NoMould) = some false
  kk_Same_NoSteady : PySem.W.kitOne K (.ref C_Same) (.ref C_NoSteady) = some false
  kk_Same_NoTelling : PySem.W.kitOne K (.ref C_Same) (.ref C_NoTelling) = some false
  kk_Same_NotCured : PySem.W.kitOne K (.ref C_Same) (.ref C_NotCured) = some false
  kk_Same_NotReady : PySem.W.kitOne K (.ref C_Same) (.ref C_NotReady) = some false
  kk_Same_TooStrong : PySem.W.kitOne K (.ref C_Same) (.ref C_TooStrong) = some false
  kk_Stopped_NoKettle : PySem.W.kitOne K (.ref C_Stopped) (.ref C_NoKettle) = some false
  kk_Stopped_NoRoom : PySem.W.kitOne K (.ref C_Stopped) (.ref C_NoRoom) = some false
  kk_Stopped_NoShare : PySem.W.kitOne K (.ref C_Stopped) (.ref C_NoShare) = some false
  kk_Stopped_Empty : PySem.W.kitOne K (.ref C_Stopped) (.ref C_Empty) = some false
  kk_Stopped_Same : PySem.W.kitOne K (.ref C_Stopped) (.ref C_Same) = some false
  kk_Stopped_Stopped : PySem.W.kitOne K (.ref C_Stopped) (.ref C_Stopped) = some true
  kk_Stopped_InWork : PySem.W.kitOne K (.ref C_Stopped) (.ref C_InWork) = some false
  kk_Stopped_BadDeed : PySem.W.kitOne K (.ref C_Stopped) (.ref C_BadDeed) = some false
  kk_Stopped_BadFrac : PySem.W.kitOne K (.ref C_Stopped) (.ref C_BadFrac) = some false
  kk_Stopped_BadKettles : PySem.W.kitOne K (.ref C_Stopped) (.ref C_BadKettles) = some false
  kk_Stopped_BadMoulds : PySem.W.kitOne K (.ref C_Stopped) (.ref C_BadMoulds) = some false
  kk_Stopped_BadRow : PySem.W.kitOne K (.ref C_Stopped) (.ref C_BadRow) = some false
  kk_Stopped_Cured : PySem.W.kitOne K (.ref C_Stopped) (.ref C_Cured) = some false
  kk_Stopped_NoHour : PySem.W.kitOne K (.ref C_Stopped) (.ref C_NoHour) = some false
  kk_Stopped_NoMould : PySem.W.kitOne K (.ref C_Stopped) (.ref C_NoMould) = some false
  kk_Stopped_NoSteady : PySem.W.kitOne K (.ref C_Stopped) (.ref C_NoSteady) = some false
  kk_Stopped_NoTelling : PySem.W.kitOne K (.ref C_Stopped) (.ref C_NoTelling) = some false
  kk_Stopped_NotCured : PySem.W.kitOne K (.ref C_Stopped) (.ref C_NotCured) = some false
  kk_Stopped_NotReady : PySem.W.kitOne K (.ref C_Stopped) (.ref C_NotReady) = some false
  kk_Stopped_TooStrong : PySem.W.kitOne K (.ref C_Stopped) (.ref C_TooStrong) = some false
  kk_InWork_NoKettle : PySem.W.kitOne K (.ref C_InWork) (.ref C_NoKettle) = some false
  kk_InWork_NoRoom : PySem.W.kitOne K (.ref C_InWork) (.ref C_NoRoom) = some false
  kk_InWork_NoShare : PySem.W.kitOne K (.ref C_InWork) (.ref C_NoShare) = some false
  kk_InWork_Empty : PySem.W.kitOne K (.ref C_InWork) (.ref C_Empty) = some false
  kk_InWork_Same : PySem.W.kitOne K (.ref C_InWork) (.ref C_Same) = some false
  kk_InWork_Stopped : PySem.W.kitOne K (.ref C_InWork) (.ref C_Stopped) = some false
  kk_InWork_InWork : PySem.W.kitOne K (.ref C_InWork) (.ref C_InWork) = some true
  kk_InWork_BadDeed : PySem.W.kitOne K (.ref C_InWork) (.ref C_BadDeed) = some false
  kk_InWork_BadFrac : PySem.W.kitOne K (.ref C_InWork) (.ref C_BadFrac) = some false
  kk_InWork_BadKettles : PySem.W.kitOne K (.ref C_InWork) (.ref C_BadKettles) = some false
  kk_InWork_BadMoulds : PySem.W.kitOne K (.ref C_InWork) (.ref C_BadMoulds) = some false
  kk_InWork_BadRow : PySem.W.kitOne K (.ref C_InWork) (.ref C_BadRow) = some false
  kk_InWork_Cured : PySem.W.kitOne K (.ref C_InWork) (.ref C_Cured) = some false
  kk_InWork_NoHour : PySem.W.kitOne K (.ref C_InWork) (.ref C_NoHour) = some false
  kk_InWork_NoMould : PySem.W.kitOne K (.ref C_InWork) (.ref C_NoMould) = some false
  kk_InWork_NoSteady : PySem.W.kitOne K (.ref C_InWork) (.ref C_NoSteady) = some false
  kk_InWork_NoTelling : PySem.W.kitOne K (.ref C_InWork) (.ref C_NoTelling) = some false
  kk_InWork_NotCured : PySem.W.kitOne K (.ref C_InWork) (.ref C_NotCured) = some false
  kk_InWork_NotReady : PySem.W.kitOne K (.ref C_InWork) (.ref C_NotReady) = some false
  kk_InWork_TooStrong : PySem.W.kitOne K (.ref C_InWork) (.ref C_TooStrong) = some false
  kV_NoKettle : PySem.W.kitOne K (.ref C_NoKettle) (.type "ValueError") = some true
  kV_NoRoom : PySem.W.kitOne K (.ref C_NoRoom) (.type "ValueError") = some true
  kV_NoShare : PySem.W.kitOne K (.ref C_NoShare) (.type "ValueError") = some true
  kV_Empty : PySem.W.kitOne K (.ref C_Empty) (.type "ValueError") = some true
  kV_Same : PySem.W.kitOne K (.ref C_Same) (.type "ValueError") = some true
  kV_Stopped : PySem.W.kitOne K (.ref C_Stopped) (.type "ValueError") = some true
  kV_InWork : PySem.W.kitOne K (.ref C_InWork) (.type "ValueError") = some true
  C_Row : Addr
  g_Row : mg "Row" = some (.ref C_Row)
  M_Row : Mk K C_Row f_Row_init
  L_Row : Cls K C_Row
  n_Row_kettles : NoAttr K C_Row "kettles"
  n_Row_moulds : NoAttr K C_Row "moulds"
  C_SameRow : Addr
  g_SameRow : mg "SameRow" = some (.ref C_SameRow)
  M_SameRow : Mk K C_SameRow f_SameRow_init
  L_SameRow : Cls K C_SameRow
  n_SameRow_kettles : NoAttr K C_SameRow "kettles"
  n_SameRow_moulds : NoAttr K C_SameRow "moulds"
  C_Kettle : Addr
  g_Kettle : mg "Kettle" = some (.ref C_Kettle)
  M_Kettle : Mk K C_Kettle f_Kettle_init
  L_Kettle : Cls K C_Kettle
  n_Kettle_room : NoAttr K C_Kettle "room"
  n_Kettle_fire : NoAttr K C_Kettle "fire"
  n_Kettle_mark : NoAttr K C_Kettle "mark"
  n_Kettle_juice : NoAttr K C_Kettle "juice"
  n_Kettle_at_work : NoAttr K C_Kettle "at_work"
  C_Kettles : Addr
  g_Kettles : mg "Kettles" = some (.ref C_Kettles)
  M_Kettles : Mk K C_Kettles f_Kettles_init
  L_Kettles : Cls K C_Kettles
  n_Kettles__row : NoAttr K C_Kettles "_row"
  n_Kettles__table : NoAttr K C_Kettles "_table"
  n_Kettles__hour : NoAttr K C_Kettles "_hour"
  n_Kettles__boiled : NoAttr K C_Kettles "_boiled"
  m_Kettles__named : Meth K C_Kettles "_named" f_Kettles__named
  m_Kettles_boiled_off : Meth K C_Kettles "boiled_off" f_Kettles_boiled_off
  m_Kettles_ready_at : Meth K C_Kettles "ready_at" f_Kettles_ready_at
  m_Kettles_is_ready : Meth K C_Kettles "is_ready" f_Kettles_is_ready
  m_Kettles_in_work : Meth K C_Kettles "in_work" f_Kettles_in_work
  m_Kettles_juice_of : Meth K C_Kettles "juice_of" f_Kettles_juice_of
  m_Kettles_kettle_names : Meth K C_Kettles "kettle_names" f_Kettles_kettle_names
  m_Kettles_hour : Meth K C_Kettles "hour" f_Kettles_hour
  m_Kettles_start : Meth K C_Kettles "start" f_Kettles_start
  m_Kettles_stop : Meth K C_Kettles "stop" f_Kettles_stop
  m_Kettles_skim : Meth K C_Kettles "skim" f_Kettles_skim
  m_Kettles_ladle : Meth K C_Kettles "ladle" f_Kettles_ladle
  m_Kettles_take_out : Meth K C_Kettles "take_out" f_Kettles_take_out
  m_Kettles_dip : Meth K C_Kettles "dip" f_Kettles_dip
  m_Kettles_pour : Meth K C_Kettles "pour" f_Kettles_pour
  m_Kettles_boil_on : Meth K C_Kettles "boil_on" f_Kettles_boil_on
  m_Kettle_hours_to_mark : Meth K C_Kettle "hours_to_mark" f_Kettle_hours_to_mark
  m_Kettle_is_at_mark : Meth K C_Kettle "is_at_mark" f_Kettle_is_at_mark
  m_Kettle_boil : Meth K C_Kettle "boil" f_Kettle_boil
  c_p_is_name : Addr
  P_p_is_name : Addr
  k_p_is_name : FunC K "is_name" "is_name" s_p_is_name f_p_is_name fd_p_is_name c_p_is_name
  c_p__can_be_kettles : Addr
  P_p__can_be_kettles : Addr
  k_p__can_be_kettles : FunC K "_can_be_kettles" "_can_be_kettles" s_p__can_be_kettles f_p__can_be_kettles fd_p__can_be_kettles c_p__can_be_kettles
  c_p__can_be_moulds : Addr
  P_p__can_be_moulds : Addr
  k_p__can_be_moulds : FunC K "_can_be_moulds" "_can_be_moulds" s_p__can_be_moulds f_p__can_be_moulds fd_p__can_be_moulds c_p__can_be_moulds
  C_NOTHING : Addr
  g_NOTHING : mg "NOTHING" = some (.ref C_NOTHING)
  q_NOTHING : ∃ x y, ∀ H, SqT K H C_NOTHING [.ref x, .ref y] ∧ SqT K H x [.int 0, .int 1] ∧ SqT K H y [.int 0, .int 1]
  C_NOUGHT : Addr
  g_NOUGHT : mg "NOUGHT" = some (.ref C_NOUGHT)
  q_NOUGHT : ∀ H, SqT K H C_NOUGHT [.int 0, .int 1]
  C_ONE : Addr
  g_ONE : mg "ONE" = some (.ref C_ONE)
  q_ONE : ∀ H, SqT K H C_ONE [.int 1, .int 1]
theorem ok_init_NoKettle {P : Program} {w : World} {K : PySem.W.Frag} {mg : Str → Option Value} {base : Heap} (T : All K mg) : FnOk P w K mg base CX0 1 T.fI_NoKettle T.fdI_NoKettle ["self", "what"] (sp_initX T.C_NoKettle "NoKettle") := by
  refine T.FI_NoKettle.ok sc_init_NoKettle (fun vs H Q E h => ?_) (fun cdv A outer s H vs Q E hr h => ?_)
  · obtain ⟨a, v, rfl, _⟩ := h
    rfl
  · obtain ⟨a, v, rfl, ha, q⟩ := h
    exact ⟨_, pss_cons (ps_ost (pv 0) (pv 1)) (pss_one (ps_ost (pv 0) (pe_cnm (pv 0)))), init_reads T.O_NoKettle T.E_NoKettle T.N_NoKettle ha fun dx h1 h2 => q dx h1 h2⟩
theorem ok_init_NoRoom {P : Program} {w : World} {K : PySem.W.Frag} {mg : Str → Option Value} {base : Heap} (T : All K mg) : FnOk P w K mg base CX0 1 T.fI_NoRoom T.fdI_NoRoom ["self", "what"] (sp_initX T.C_NoRoom "NoRoom") := by
  refine T.FI_NoRoom.ok sc_init_NoRoom (fun vs H Q E h => ?_) (fun cdv A outer s H vs Q E hr h => ?_)
  · obtain ⟨a, v, rfl, _⟩ := h
    rfl
  · obtain ⟨a, v, rfl, ha, q⟩ := h
    exact ⟨_, pss_cons (ps_ost (pv 0) (pv 1)) (pss_one (ps_ost (pv 0) (pe_cnm (pv 0)))), init_reads T.O_NoRoom T.E_NoRoom T.N_NoRoom ha fun dx h1 h2 => q dx h1 h2⟩
theorem ok_init_NoShare {P : Program} {w : World} {K : PySem.W.Frag} {mg : Str → Option Value} {base : Heap} (T : All K mg) : FnOk P w K mg base CX0 1 T.fI_NoShare T.fdI_NoShare ["self", "what"] (sp_initX T.C_NoShare "NoShare") := by
  refine T.FI_NoShare.ok sc_init_NoShare (fun vs H Q E h => ?_) (fun cdv A outer s H vs Q E hr h => ?_)
  · obtain ⟨a, v, rfl, _⟩ := h
    rfl
  · obtain ⟨a, v, rfl, ha, q⟩ := h
    exact ⟨_, pss_cons (ps_ost (pv 0) (pv 1)) (pss_one (ps_ost (pv 0) (pe_cnm (pv 0)))), init_reads T.O_NoShare T.E_NoShare T.N_NoShare ha fun dx h1 h2 => q dx h1 h2⟩
theorem ok_init_Empty {P : Program} {w : World} {K : PySem.W.Frag} {mg : Str → Option Value} {base : Heap} (T : All K mg) : FnOk P w K mg base CX0 1 T.fI_Empty T.fdI_Empty ["self", "what"] (sp_initX T.C_Empty "Empty") := by
  refine T.FI_Empty.ok sc_init_Empty (fun vs H Q E h => ?_) (fun cdv A outer s H vs Q E hr h => ?_)
  · obtain ⟨a, v, rfl, _⟩ := h
    rfl
  · obtain ⟨a, v, rfl, ha, q⟩ := h
    exact ⟨_, pss_cons (ps_ost (pv 0) (pv 1)) (pss_one (ps_ost (pv 0) (pe_cnm (pv 0)))), init_reads T.O_Empty T.E_Empty T.N_Empty ha fun dx h1 h2 => q dx h1 h2⟩
theorem ok_init_Same {P : Program} {w : World} {K : PySem.W.Frag} {mg : Str → Option Value} {base : Heap} (T : All K mg) : FnOk P w K mg base CX0 1 T.fI_Same T.fdI_Same ["self", "what"] (sp_initX T.C_Same "Same") := by
  refine T.FI_Same.ok sc_init_Same (fun vs H Q E h => ?_) (fun cdv A outer s H vs Q E hr h => ?_)
  · obtain ⟨a, v, rfl, _⟩ := h
    rfl
  · obtain ⟨a, v, rfl, ha, q⟩ := h
    exact ⟨_, pss_cons (ps_ost (pv 0) (pv 1)) (pss_one (ps_ost (pv 0) (pe_cnm (pv 0)))), init_reads T.O_Same T.E_Same T.N_Same ha fun dx h1 h2 => q dx h1 h2⟩
theorem ok_init_Stopped {P : Program} {w : World} {K : PySem.W.Frag} {mg : Str → Option Value} {base : Heap} (T : All K mg) : FnOk P w K mg base CX0 1 T.fI_Stopped T.fdI_Stopped ["self", "what"] (sp_initX T.C_Stopped "Stopped") := by
  refine T.FI_Stopped.ok sc_init_Stopped (fun vs H Q E h => ?_) (fun cdv A outer s H vs Q E hr h => ?_)
  · obtain ⟨a, v, rfl, _⟩ := h
    rfl
  · obtain ⟨a, v, rfl, ha, q⟩ := h
    exact ⟨_, pss_cons (ps_ost (pv 0) (pv 1)) (pss_one (ps_ost (pv 0) (pe_cnm (pv 0)))), init_reads T.O_Stopped T.E_Stopped T.N_Stopped ha fun dx h1 h2 => q dx h1 h2⟩
theorem ok_init_InWork {P : Program} {w : World} {K : PySem.W.Frag} {mg : Str → Option Value} {base : Heap} (T : All K mg) : FnOk P w K mg base CX0 1 T.fI_InWork T.fdI_InWork ["self", "what"] (sp_initX T.C_InWork "InWork") := by
  refine T.FI_InWork.ok sc_init_InWork (fun vs H Q E h => ?_) (fun cdv A outer s H vs Q E hr h => ?_)
  · obtain ⟨a, v, rfl, _⟩ := h
    rfl
  · obtain ⟨a, v, rfl, ha, q⟩ := h
    exact ⟨_, pss_cons (ps_ost (pv 0) (pv 1)) (pss_one (ps_ost (pv 0) (pe_cnm (pv 0)))), init_reads T.O_InWork T.E_InWork T.N_InWork ha fun dx h1 h2 => q dx h1 h2⟩
def All.Ps {K : PySem.W.Frag} {mg : Str → Option Value} (T : All K mg) : List Addr := [T.P_p_is_name, T.P_p__can_be_kettles, T.P_p__can_be_moulds]
structure Tabs {K : PySem.W.Frag} {mg : Str → Option Value} (T : All K mg) (base : Heap) : Prop where
  t_p_is_name : GxR.TabB base mg T.c_p_is_name T.P_p_is_name
  t_p__can_be_kettles : GxR.TabB base mg T.c_p__can_be_kettles T.P_p__can_be_kettles
  t_p__can_be_moulds : GxR.TabB base mg T.c_p__can_be_moulds T.P_p__can_be_moulds
end KR
namespace KR
open PySem PySem.Spec PyProof.Rows L2
section
variable {P : Program} {w : World} {K : PySem.W.Frag} {mg : Str → Option Value} {base : Heap}
def sp_l_cell_at (K : PySem.W.Frag) : Sp := fun vs H Q _ => ∃ (a : Addr) (ns : List Int) (k : Int), vs = [.ref a, .int k] ∧ SqL K H a (ns.map V.int) ∧ 0 ≤ k ∧ ∀ z : Int, Q (.int z) H
theorem ok_l_cell_at (T : All K mg) : FnOk P w K mg base CX0 1 T.f_l_cell_at T.fd_l_cell_at ["_law_script", "_law_k"] (sp_l_cell_at K) := by
  refine T.d_l_cell_at.fn.ok sc_l_cell_at (fun vs H Q E h => ?_) (fun cdv A outer s H vs Q E hr h => ?_)
  · obtain ⟨a, ns, k, rfl, _⟩ := h
    rfl
  · obtain ⟨a, ns, k, rfl, hS, h0, q⟩ := h
    refine ⟨_, (pss_cons (ps_if (pt_cmpR op_lt (pv 1) (pe_callB (lenQ (K := K) rfl) (by rfl) T.b_len PySem.boot_len (pa_cons (pv 0) pa_nil)) (nomark _)) (pss_one (ps_ret (pe_ix (ixL (K := K) rfl) (pv 0) (pv 1) (fun _ _ => rfl)))) pss_nil)
      (pss_one (ps_ret pe_int))), ?_⟩
    refine ⟨_, rfl, _, rfl, a, _, rfl, .inl hS, _, _, rfl, rfl, _, rfl, ite2 (fun c => ?_) (fun c => ?_)⟩
    · have c1 : k < ((ns.map V.int).length : Int) := of_decide_eq_true c
      rw [List.length_map] at c1
      refine ⟨_, rfl, _, rfl, a, _, k, _, rfl, rfl, hS, at_of (j := k.toNat) (by omega) (by rw [List.getElem?_map, List.getElem?_eq_getElem (show k.toNat < ns.length by omega)]; rfl), ?_⟩
      exact q _
    · exact q _

end
end KR
namespace KR
open PySem PySem.Spec PyProof.Rows L2
section
variable {P : Program} {w : World} {K : PySem.W.Frag} {mg : Str → Option Value} {base : Heap}
def sp_l_box (K : PySem.W.Frag) : Sp := fun vs H Q _ => ∃ (a : Addr) (ns : List Int) (k : Int), vs = [.ref a, .int k] ∧ SqL K H a (ns.map V.int) ∧ 0 ≤ k ∧ k ≤ 63 ∧ ∀ p H', Same H H' → H p = none → BoxAt H' p 0 → Q (.ref p) H'
theorem ok_l_box (T : All K mg) : FnOk P w K mg base CX0 2 T.f_l_box T.fd_l_box ["_law_script", "_law_k"] (sp_l_box K) := by
  refine T.d_l_box.fn.ok sc_l_box (fun vs H Q E h => ?_) (fun cdv A outer s H vs Q E hr h => ?_)
  · obtain ⟨a, ns, k, rfl, _⟩ := h
    rfl
  · obtain ⟨a, ns, k, rfl, hS, h0, h1, q⟩ := h
    refine ⟨_, (pss_cons (ps_set (i := 2) sc_l_box.nd rfl (by first | exact Or.inl rfl | exact Or.inr rfl) (pe_call (ok_l_cell_at T) hr (by rfl) T.d_l_cell_at.mg T.d_l_cell_at.fn.kp T.d_l_cell_at.b .nil pass0 (pa_cons (pv 0) (pa_cons (pv 1) pa_nil))))
      (pss_one (ps_ret (pe_lstI (pa_cons (pe_op op_mulX (pe_callB call_abs (by rfl) T.b_abs (by decide +kernel) (pa_cons (pv 2) pa_nil)) (pe_callTy call_int1 (by rfl) T.b_int (by decide +kernel) (pa_cons (pe_cmpR op_ge (pe_callB call_abs (by rfl) T.b_abs (by decide +kernel) (pa_cons (pv 2) pa_nil)) (pe_op op_pow pe_int pe_int) (nomark _)) pa_nil))) (pa_cons (pe_op op_add (pe_op op_add (pe_op op_mod (pv 2) pe_int) (pe_op op_mulX pe_int (pv 1))) pe_int) (pa_cons pe_int pa_nil))))))), ?_⟩
    refine ⟨_, rfl, _, rfl, a, ns, k, rfl, hS, h0, fun z => ?_⟩
    refine ⟨_, rfl, _, rfl, _, rfl, _, rfl, _, _, rfl, rfl, ⟨by decide, by decide, by decide⟩, _, _, rfl, rfl, .inr ⟨_, rfl, ?_⟩⟩
    refine ⟨_, _, rfl, rfl, mulR bit_lt, ?_⟩
    refine ⟨_, rfl, _, _, rfl, rfl, (by show (0 : Int) < 2305843009213693951; decide), _, rfl, _, _, rfl, rfl, mulL (by decide), _, _, rfl, rfl, _, _, rfl, rfl, rfl, fun p H1 s1 hp h1 => ?_⟩
    refine q p _ s1 hp ⟨_, _, _, h1, ?_, ?_, ?_, by decide, by decide⟩
    · refine Int.mul_nonneg (by split <;> omega) bit_nn
    · omega
    · omega

end
end KR
namespace KR
open PySem PySem.Spec PyProof.Rows L2
section
variable {P : Program} {w : World} {K : PySem.W.Frag} {mg : Str → Option Value} {base : Heap}
def sp_l_take : Sp := fun vs H Q _ => ∃ (p : Addr) (m : Int) (n : Nat), vs = [.ref p, .int m] ∧ BoxAt H p n ∧ n ≤ 1000000000 ∧ 0 < m ∧ m.natAbs < 2 ^ 200 ∧ ∀ (z : Int) (H' : Hp), 0 ≤ z → z < m → BoxAt H' p (n + 1) → Fr p H H' → Q (.int z) H'
theorem ok_l_take (T : All K mg) : FnOk P w K mg base CX0 1 T.f_l_take T.fd_l_take ["_law_box_here", "_law_many"] sp_l_take := by
  refine T.d_l_take.fn.ok sc_l_take (fun vs H Q E h => ?_) (fun cdv A outer s H vs Q E hr h => ?_)
  · obtain ⟨p, m, n, rfl, _⟩ := h
    rfl
  · obtain ⟨p, m, n, rfl, hB, hn, h0, hm, q⟩ := h
    obtain ⟨a, b, c, hp, ha, hb, hb2, hc, hcn⟩ := hB
    refine ⟨_, (pss_cons (ps_if (pt_cmpR op_gt (pe_ix (ixL (K := K) rfl) (pv 0) pe_int (fun _ _ => rfl)) pe_int (nomark _)) (pss_cons (ps_set (i := 2) sc_l_take.nd rfl (by first | exact Or.inl rfl | exact Or.inr rfl) (pe_op op_mod (pe_ix (ixL (K := K) rfl) (pv 0) pe_int (fun _ _ => rfl)) (pv 1)))
      (pss_cons (ps_asg (pe_op op_fdivW (pe_ix (ixL (K := K) rfl) (pv 0) pe_int (fun _ _ => rfl)) (pv 1)) (pg_sub (pv 0) pe_int set_list))
      (pss_one (ps_ret (pv 2))))) pss_nil)
      (pss_cons (ps_asg (pe_op op_add (pe_ix (ixL (K := K) rfl) (pv 0) pe_int (fun _ _ => rfl)) pe_int) (pg_sub (pv 0) pe_int set_list))
      (pss_cons (ps_set (i := 3) sc_l_take.nd rfl (by first | exact Or.inl rfl | exact Or.inr rfl) (pe_op op_mod (pe_op op_mulX (pe_op op_add (pe_ix (ixL (K := K) rfl) (pv 0) pe_int (fun _ _ => rfl)) (pe_op op_mulX pe_int (pe_ix (ixL (K := K) rfl) (pv 0) pe_int (fun _ _ => rfl)))) (pe_op op_add pe_int (pe_ix (ixL (K := K) rfl) (pv 0) pe_int (fun _ _ => rfl)))) pe_int))
      (pss_cons (ps_set (i := 4) sc_l_take.nd rfl (by first | exact Or.inl rfl | exact Or.inr rfl) (pe_op op_mod (pe_op op_mulX (pe_op op_add (pv 3) (pe_ix (ixL (K := K) rfl) (pv 0) pe_int (fun _ _ => rfl))) (pe_op op_add (pe_op op_mod (pv 3) pe_int) pe_int)) pe_int))
      (pss_one (ps_ret (pe_op op_mod (pe_op op_fdivW (pe_op op_mod (pe_op op_add (pe_op op_mulX (pv 4) pe_int) (pv 3)) pe_int) pe_int) (pv 1)))))))), ?_⟩
    refine ⟨_, rfl, p, _, 0, _, rfl, rfl, SqL.of hp, at0, _, _, rfl, rfl, _, rfl, ite2 (fun c1 => ?_) (fun c1 => ?_)⟩
    · refine ⟨_, rfl, p, _, 0, _, rfl, rfl, SqL.of hp, at0, _, rfl, _, _, rfl, rfl, h0, ?_⟩
      refine ⟨_, rfl, p, _, 0, _, rfl, rfl, SqL.of hp, at0, _, rfl, _, _, rfl, rfl, wide_div h0 hm (by decide) (by decide), ?_⟩
      refine ⟨_, rfl, p, _, 0, 0, rfl, rfl, hp, rfl, ?_⟩
      refine ⟨_, rfl, ?_⟩
      refine q _ _ (Int.emod_nonneg _ (by omega)) (Int.emod_lt_of_pos _ h0) ⟨_, _, _, upd_same, ?_, hb, hb2, hc, by omega⟩ (Fr.put Fr.refl)
      exact Int.ediv_nonneg ha (by omega)
    · refine ⟨_, rfl, p, _, 2, _, rfl, rfl, SqL.of hp, at2, _, _, rfl, rfl, _, rfl, p, _, 2, 2, rfl, rfl, hp, rfl, ?_⟩
      have hp2 : (upd H p (.lst [.int a, .int b, .int (c + 1)])) p = some (.lst [.int a, .int b, .int (c + 1)]) := upd_same
      refine ⟨_, rfl, p, _, 1, _, rfl, rfl, SqL.of hp2, at1, _, rfl, p, _, 2, _, rfl, rfl, SqL.of hp2, at2, _, _, rfl, rfl, mulL (by decide), _, _, rfl, rfl, ?_⟩
      refine ⟨_, rfl, p, _, 2, _, rfl, rfl, SqL.of hp2, at2, _, _, rfl, rfl, _, _, rfl, rfl, mulL (by omega), _, _, rfl, rfl, (by show (0 : Int) < 2147483647; decide), ?_⟩
      generalize e1 : (b + 48271 * (c + 1)) * (39373 + (c + 1)) % 2147483647 = o
      have o1 : 0 ≤ o ∧ o < 2147483647 := by omega
      refine ⟨_, rfl, _, rfl, p, _, 2, _, rfl, rfl, SqL.of hp2, at2, _, _, rfl, rfl, _, rfl, _, _, rfl, rfl, (by show (0 : Int) < 40009; decide), _, _, rfl, rfl, _, _, rfl, rfl, mulL (by omega), _, _, rfl, rfl, (by show (0 : Int) < 2147483629; decide), ?_⟩
      generalize e2 : (o + (c + 1)) * (o % 40009 + 7) % 2147483629 = t
      have t1 : 0 ≤ t ∧ t < 2147483629 := by omega
      refine ⟨_, rfl, _, _, rfl, rfl, mulL (by omega), _, rfl, _, _, rfl, rfl, _, _, rfl, rfl, (by show (0 : Int) < 2147483587; decide), _, _, rfl, rfl, wide_div (b := 10) (by decide) (by decide) (by decide) (by decide), _, rfl, _, _, rfl, rfl, h0, ?_⟩
      exact q _ _ (Int.emod_nonneg _ (by omega)) (Int.emod_lt_of_pos _ h0) ⟨_, _, _, upd_same, ha, hb, hb2, by omega, by omega⟩ (Fr.put Fr.refl)

end
end KR
namespace KR
open PySem PySem.Spec PyProof.Rows L2
section
variable {P : Program} {w : World} {K : PySem.W.Frag} {mg : Str → Option Value} {base : Heap}
theorem ok0_l_low (T : All K mg) : FnOk P w K mg base CX0 1 T.f_l_low T.fd_l_low ["_law_top", "_law_bottom"] sp_lowV := by
  refine T.d_l_low.fn.ok sc_l_low (fun vs H Q E h => ?_) (fun cdv A outer s H vs Q E hr h => ?_)
  · obtain ⟨t, b, rfl, _⟩ := h
    rfl
  · obtain ⟨t, b, rfl, hb, ht, hb2, q⟩ := h
    refine ⟨_, (pss_cons (ps_par (i := 2) (j := 3) (by rfl) sc_l_low.nd rfl rfl (by decide) rfl rfl (pa_cons (pe_callB call_abs (by rfl) T.b_abs (by decide +kernel) (pa_cons (pv 0) pa_nil)) (pa_cons (pe_callB call_abs (by rfl) T.b_abs (by decide +kernel) (pa_cons (pv 1) pa_nil)) pa_nil)) (by rfl))
      (pss_cons (ps_while PassesOwn.never (pt_cmpR op_gt (pv 3) pe_int (nomark _)) (pss_one (ps_par (i := 2) (j := 3) (by rfl) sc_l_low.nd rfl rfl (by decide) rfl rfl (pa_cons (pv 3) (pa_cons (pe_op op_mod (pv 2) (pv 3)) pa_nil)) (by rfl))))
      (pss_one (ps_ret (pe_tupI (pa_cons (pe_op op_mulX (pe_op op_fdivW (pv 0) (pv 2)) (pe_op op_sub pe_int (pe_op op_mulX pe_int (pe_callTy call_int1 (by rfl) T.b_int (by decide +kernel) (pa_cons (pe_cmpR op_lt (pv 1) pe_int (nomark _)) pa_nil))))) (pa_cons (pe_op op_fdivW (pe_callB call_abs (by rfl) T.b_abs (by decide +kernel) (pa_cons (pv 1) pa_nil)) (pv 2)) pa_nil))))))), ?_⟩
    have abs_ : ∀ z : Int, (if z < 0 then -z else z) = (z.natAbs : Int) := fun z => by split <;> omega
    refine ⟨_, rfl, _, rfl, _, rfl, _, rfl, _, _, rfl, ?_⟩
    rw [abs_, abs_]
    refine ⟨fun m σ H' => ∃ x y : Nat, σ = [some (.int t), some (.int b), some (.int x), some (.int y)] ∧ H' = H ∧ Nat.gcd x y = Nat.gcd t.natAbs b.natAbs ∧ m = y, ⟨_, _, _, rfl, rfl, rfl, rfl⟩, ?_⟩
    rintro m σ H' ⟨x, y, rfl, rfl, hg, rfl⟩
    refine ⟨_, rfl, _, _, rfl, rfl, _, rfl, ite2 (fun c => ?_) (fun c => ?_)⟩
    · have c1 : (0 : Int) < m := of_decide_eq_true c
      refine ⟨fun σ' H1 => ∃ x' y' : Nat, σ' = [some (.int t), some (.int b), some (.int x'), some (.int y')] ∧ H1 = H' ∧ Nat.gcd x' y' = Nat.gcd t.natAbs b.natAbs ∧ y' < m, fun σ' H1 ⟨x', y', e1, e2, e3, e4⟩ => ⟨y', e4, x', y', e1, e2, e3, rfl⟩, ?_⟩
      refine ⟨_, rfl, _, rfl, _, rfl, _, _, rfl, rfl, c1, _, _, rfl, ?_⟩
      refine ⟨m, x % m, by rw [Int.natCast_emod]; rfl, rfl, ?_, Nat.mod_lt _ (by omega)⟩
      rw [← hg, Nat.gcd_comm x m, Nat.gcd_rec m x, Nat.gcd_comm]
    · have c1 : ¬ (0 : Int) < m := of_decide_eq_false (Bool.eq_false_iff.mpr c)
      have m0 : m = 0 := by omega
      subst m0
      rw [Nat.gcd_zero_right] at hg
      have x0 : 0 < x := by
        rw [hg]
        exact Nat.gcd_pos_of_pos_right _ (by omega)
      have x1 : (x : Int).natAbs < 2 ^ 8900 := by
        rw [Int.natAbs_natCast, hg]
        exact Nat.lt_of_le_of_lt (Nat.le_of_dvd (by omega) (Nat.gcd_dvd_right _ _)) hb2
      refine ⟨_, rfl, _, rfl, _, _, rfl, rfl, wide_div (b := 8900) (by omega) x1 (by decide) (by decide), _, rfl, _, _, rfl, rfl, .inr ⟨_, rfl, ?_⟩⟩
      refine ⟨_, _, rfl, rfl, mulL (by decide), _, _, rfl, rfl, _, _, rfl, rfl, mulR (by rcases bit_or (c := decide (b < 0) = true) with z | z <;> rw [z] <;> decide), ?_⟩
      refine ⟨_, rfl, _, rfl, _, rfl, _, _, rfl, rfl, wide_div (b := 8900) (by omega) x1 (by decide) (by decide), rfl, fun p H1 s1 hp h1 => ?_⟩
      have e1 : t / (x : Int) * (1 - 2 * (if decide (b < 0) = true then 1 else 0)) = (low t b).1 := by
        unfold low
        rw [hg]
        by_cases z : b < 0
        · rw [if_pos (decide_eq_true z), if_pos z] <;> rfl
        · rw [if_neg (by rw [decide_eq_false z]; exact Bool.false_ne_true), if_neg z] <;> rfl
      have e2 : (if b < 0 then -b else b) / (x : Int) = (low t b).2 := by
        rw [abs_]
        unfold low
        rw [hg]
      refine q p H1 s1 hp ?_
      rw [← e1, ← e2]
      exact h1
theorem ok_l_low (T : All K mg) : FnOk P w K mg base CX0 1 T.f_l_low T.fd_l_low ["_law_top", "_law_bottom"] (sp_lowW K) := (ok0_l_low T).imp fun _ _ _ _ h => lowW h

end
end KR
namespace KR
open PySem PySem.Spec PyProof.Rows L2
section
variable {P : Program} {w : World} {K : PySem.W.Frag} {mg : Str → Option Value} {base : Heap}
theorem ok_l_plus (T : All K mg) : FnOk P w K mg base CX0 2 T.f_l_plus T.fd_l_plus ["_law_one", "_law_other"] (sp_w2 K (fun p q => p + q) (fun _ q => True)) := by
  refine T.d_l_plus.fn.ok sc_l_plus (fun vs H Q E h => ?_) (fun cdv A outer s H vs Q E hr h => ?_)
  · obtain ⟨x, y, p, q, rfl, _⟩ := h
    rfl
  · obtain ⟨x, y, p, q, rfl, hx, hy, zp, zq, hok, k⟩ := h
    have hx' : SqT K H x [.int p.num, .int (p.den : Int)] := hx
    have hy' : SqT K H y [.int q.num, .int (q.den : Int)] := hy
    refine ⟨_, (pss_one (ps_ret (pe_call (ok_l_low T) hr (by rfl) T.d_l_low.mg T.d_l_low.fn.kp T.d_l_low.b .nil pass0 (pa_cons (pe_op op_add (pe_op op_mulX (pe_ix (ixT (K := K) rfl) (pv 0) pe_int (fun _ _ => rfl)) (pe_ix (ixT (K := K) rfl) (pv 1) pe_int (fun _ _ => rfl))) (pe_op op_mulX (pe_ix (ixT (K := K) rfl) (pv 1) pe_int (fun _ _ => rfl)) (pe_ix (ixT (K := K) rfl) (pv 0) pe_int (fun _ _ => rfl)))) (pa_cons (pe_op op_mulX (pe_ix (ixT (K := K) rfl) (pv 0) pe_int (fun _ _ => rfl)) (pe_ix (ixT (K := K) rfl) (pv 1) pe_int (fun _ _ => rfl))) pa_nil))))), ?_⟩
    obtain ⟨a1, a2⟩ := zp
    obtain ⟨b1, b2⟩ := zq
    have hp := den_ne' p
    have hq := den_ne' q
    refine ⟨_, rfl, x, _, 0, _, rfl, rfl, hx', at0, _, rfl, y, _, 1, _, rfl, rfl, hy', at1, _, _, rfl, rfl, mulZ a1 b2 (by omega), _, rfl, y, _, 0, _, rfl, rfl, hy', at0, _, rfl, x, _, 1, _, rfl, rfl, hx', at1, _, _, rfl, rfl, mulZ b1 a2 (by omega), _, _, rfl, rfl, ?_⟩
    refine ⟨_, rfl, x, _, 1, _, rfl, rfl, hx', at1, _, rfl, y, _, 1, _, rfl, rfl, hy', at1, _, _, rfl, rfl, mulZ a2 b2 (by omega), ?_⟩
    refine ⟨_, _, rfl, Int.mul_ne_zero hp hq, lt_up (add_lt (wide_lt a1 b2) (wide_lt b1 a2)) (by omega), lt_up (wide_lt a2 b2) (by omega), ?_⟩
    intro z H' s1 n1 h1
    rw [rq_add] at h1
    exact k z H' s1 n1 h1

end
end KR
namespace KR
open PySem PySem.Spec PyProof.Rows L2
section
variable {P : Program} {w : World} {K : PySem.W.Frag} {mg : Str → Option Value} {base : Heap}
theorem ok_l_by (T : All K mg) : FnOk P w K mg base CX0 2 T.f_l_by T.fd_l_by ["_law_one", "_law_other"] (sp_w2 K (fun p q => p * q) (fun _ q => True)) := by
  refine T.d_l_by.fn.ok sc_l_by (fun vs H Q E h => ?_) (fun cdv A outer s H vs Q E hr h => ?_)
  · obtain ⟨x, y, p, q, rfl, _⟩ := h
    rfl
  · obtain ⟨x, y, p, q, rfl, hx, hy, zp, zq, hok, k⟩ := h
    have hx' : SqT K H x [.int p.num, .int (p.den : Int)] := hx
    have hy' : SqT K H y [.int q.num, .int (q.den : Int)] := hy
    refine ⟨_, (pss_one (ps_ret (pe_call (ok_l_low T) hr (by rfl) T.d_l_low.mg T.d_l_low.fn.kp T.d_l_low.b .nil pass0 (pa_cons (pe_op op_mulX (pe_ix (ixT (K := K) rfl) (pv 0) pe_int (fun _ _ => rfl)) (pe_ix (ixT (K := K) rfl) (pv 1) pe_int (fun _ _ => rfl))) (pa_cons (pe_op op_mulX (pe_ix (ixT (K := K) rfl) (pv 0) pe_int (fun _ _ => rfl)) (pe_ix (ixT (K := K) rfl) (pv 1) pe_int (fun _ _ => rfl))) pa_nil))))), ?_⟩
    obtain ⟨a1, a2⟩ := zp
    obtain ⟨b1, b2⟩ := zq
    have hp := den_ne' p
    have hq := den_ne' q
    refine ⟨_, rfl, x, _, 0, _, rfl, rfl, hx', at0, _, rfl, y, _, 0, _, rfl, rfl, hy', at0, _, _, rfl, rfl, mulZ a1 b1 (by omega), ?_⟩
    refine ⟨_, rfl, x, _, 1, _, rfl, rfl, hx', at1, _, rfl, y, _, 1, _, rfl, rfl, hy', at1, _, _, rfl, rfl, mulZ a2 b2 (by omega), ?_⟩
    refine ⟨_, _, rfl, Int.mul_ne_zero hp hq, lt_up (wide_lt a1 b1) (by omega), lt_up (wide_lt a2 b2) (by omega), ?_⟩
    intro z H' s1 n1 h1
    rw [rq_mul] at h1
    exact k z H' s1 n1 h1

end
end KR
namespace KR
open PySem PySem.Spec PyProof.Rows L2
section
variable {P : Program} {w : World} {K : PySem.W.Frag} {mg : Str → Option Value} {base : Heap}
def sp_l_same (K : PySem.W.Frag) (n : Nat) : Sp := fun vs H Q _ => ∃ (v w : V) (d : PyData), vs = [v, w] ∧ Dk K H n v d ∧ Dk K H n w d ∧ ∀ H', Same H H' → Q (.bl true) H'
/-- how two alike things look: no list and no tuple, or two lists, or two tuples -/
inductive Look2 (K : PySem.W.Frag) (H : Hp) (n : Nat) (v w : V) (d : PyData) : Prop
  | leaf (t : String) (bb bi : Bool) (e : v = w) (ty : TyX K H w (.type t)) (kl : kitB t "list" = some false) (kt : kitB t "tuple" = some false) (kb : kitB t "bool" = some bb) (ki : kitB t "int" = some bi) (dp : Dp K H w d) (sh : SeqAt.shaped d = true)
  | both (t : String) (bl bt : Bool) (a b : Addr) (xs ys : List V) (ds : List PyData) (e1 : v = .ref a) (e2 : w = .ref b) (ty1 : TyX K H v (.type t)) (ty2 : TyX K H w (.type t)) (kl : kitB t "list" = some bl) (kt : kitB t "tuple" = some bt) (kk : bl = false → bt = true)
    (lx : xs.length = ds.length) (ly : ys.length = ds.length) (l9 : xs.length ≤ 100000) (dx : ∀ (i : Nat) (x : V) (d : PyData), xs[i]? = some x → ds[i]? = some d → Dk K H n x d) (dy : ∀ (i : Nat) (x : V) (d : PyData), ys[i]? = some x → ds[i]? = some d → Dk K H n x d)
    (h : (H a = some (.lst xs) ∧ H b = some (.lst ys)) ∨ (SqT K H a xs ∧ SqT K H b ys))
theorem look2 {K : PySem.W.Frag} {H : Hp} {n : Nat} {v w : V} {d : PyData} (h1 : Dk K H (n + 1) v d) (h2 : Dk K H (n + 1) w d) : Look2 K H n v w d := by
  cases h1 with
  | non => cases h2; exact .leaf "NoneType" false false rfl (.base .non) (by decide +kernel) (by decide +kernel) (by decide +kernel) (by decide +kernel) .non rfl
  | bl _ b => cases h2; exact .leaf "bool" true true rfl (.base (.bl b)) (by decide +kernel) (by decide +kernel) (by decide +kernel) (by decide +kernel) (.bl b) rfl
  | int _ i => cases h2; exact .leaf "int" false true rfl (.base (.int i)) (by decide +kernel) (by decide +kernel) (by decide +kernel) (by decide +kernel) (.int i) rfl
  | str _ x ok => cases h2; exact .leaf "str" false false rfl (.base (.str x)) (by decide +kernel) (by decide +kernel) (by decide +kernel) (by decide +kernel) (.str x) (by show (PyData.canLay0 (.str x) && decide (PyData.depth (.str x) ≤ 64)) = true; rw [ok]; rfl)
  | lst a1 a2 a3 a4 =>
    cases h2 with
    | lst b1 b2 b3 b4 => exact .both "list" true false _ _ _ _ _ rfl rfl (.base (.lst a1)) (.base (.lst b1)) (by decide +kernel) (by decide +kernel) (fun z => nomatch z) a2 b2 a3 a4 b4 (.inl ⟨a1, b1⟩)
  | tup a1 a2 a3 a4 =>
    cases h2 with
    | tup b1 b2 b3 b4 => exact .both "tuple" false true _ _ _ _ _ rfl rfl (sqT_ty a1) (sqT_ty b1) (by decide +kernel) (by decide +kernel) (fun _ => rfl) a2 b2 a3 a4 b4 (.inr ⟨a1, b1⟩)
theorem none_l_same {f : Addr} {fd : FuncData} : FnOk P w K mg base CX0 0 f fd ["_law_found", "_law_due_here"] (sp_l_same K 0) := by
  have no : ∀ vs H Q E, ¬ sp_l_same K 0 vs H Q E := fun vs H Q E h => by
    obtain ⟨v, w, d, _, h1, _⟩ := h
    cases h1
  exact ⟨fun vs H Q E h => absurd h (no vs H Q E), fun A outer s H args us vs Q E _ _ _ _ h => absurd h (no vs H Q E)⟩
theorem step_l_same (T : All K mg) {n : Nat} (ih : FnOk P w K mg base CX0 n T.f_l_same T.fd_l_same ["_law_found", "_law_due_here"] (sp_l_same K n)) : FnOk P w K mg base CX0 (n + 1) T.f_l_same T.fd_l_same ["_law_found", "_law_due_here"] (sp_l_same K (n + 1)) := by
  refine T.d_l_same.fn.ok sc_l_same (fun vs H Q E h => ?_) (fun cdv A outer s H vs Q E hr h => ?_)
  · obtain ⟨v, w, d, rfl, _⟩ := h
    rfl
  · obtain ⟨v, w, d, rfl, h1, h2, q⟩ := h
    refine ⟨_, (pss_cons (ps_if (pt_val (pe_callB (isiTK (K := K) rfl) (by rfl) T.b_isinstance (by decide +kernel) (pa_cons (pv 1) (pa_cons (pe_tupI (pa_cons (pe_bltn (v := .ty "list") (by rfl) T.b_list (by decide +kernel) rfl) (pa_cons (pe_bltn (v := .ty "tuple") (by rfl) T.b_tuple (by decide +kernel) rfl) pa_nil))) pa_nil)))) (pss_cons (ps_if (PW.pt (pw_or (pt_cmpR op_ne (pe_callB (isiK (K := K) rfl) (by rfl) T.b_isinstance (by decide +kernel) (pa_cons (pv 0) (pa_cons (pe_bltn (v := .ty "list") (by rfl) T.b_list (by decide +kernel) rfl) pa_nil))) (pe_callB (isiK (K := K) rfl) (by rfl) T.b_isinstance (by decide +kernel) (pa_cons (pv 1) (pa_cons (pe_bltn (v := .ty "list") (by rfl) T.b_list (by decide +kernel) rfl) pa_nil))) (nomark _)) (pw_or1 (pt_cmpR op_ne (pe_callB (isiK (K := K) rfl) (by rfl) T.b_isinstance (by decide +kernel) (pa_cons (pv 0) (pa_cons (pe_bltn (v := .ty "tuple") (by rfl) T.b_tuple (by decide +kernel) rfl) pa_nil))) (pe_callB (isiK (K := K) rfl) (by rfl) T.b_isinstance (by decide +kernel) (pa_cons (pv 1) (pa_cons (pe_bltn (v := .ty "tuple") (by rfl) T.b_tuple (by decide +kernel) rfl) pa_nil))) (nomark _))))) (pss_one (ps_ret pe_bl)) pss_nil)
      (pss_one (ps_ret (pe_and (pe_cmpR op_eq (pe_callB (lenA (K := K) rfl) (by rfl) T.b_len PySem.boot_len (pa_cons (pv 0) pa_nil)) (pe_callB (lenA (K := K) rfl) (by rfl) T.b_len PySem.boot_len (pa_cons (pv 1) pa_nil)) (nomark _)) (pe_one (pe_callB (allK (K := K) rfl rfl) (by rfl) T.b_all (by decide +kernel) (pa_cons (pe_lc (own := [("_law_one", 2), ("_law_other", 3)]) (g := gTup K 2 (gCons (gName 2) (gCons (gName 3) gNil))) (tt := tYes) (by rfl) sc_l_same.nd (pi_zipK (K := K) rfl (by rfl) T.b_zip (pa_cons (pv 0) (pa_cons (pv 1) pa_nil))) (blkOk_by (own := [("_law_one", 2), ("_law_other", 3)]) (N := ["_law_found", "_law_due_here", "_law_one", "_law_other"]) (sc := defScope s_l_same) (by decide +kernel)) (fun _ _ _ _ _ => (pg_tupK (K := K) rfl rfl (pgs_cons (pg_name (i := 2) sc_l_same.nd rfl (by first | exact Or.inl rfl | exact Or.inr rfl)) (pgs_cons (pg_name (i := 3) sc_l_same.nd rfl (by first | exact Or.inl rfl | exact Or.inr rfl)) pgs_nil)))) (fun _ _ _ _ _ => pts_nil) (fun _ _ _ _ _ => (pe_call ih hr (by rfl) T.d_l_same.mg T.d_l_same.fn.kp T.d_l_same.b .nil pass0 (pa_cons (pv 2) (pa_cons (pv 3) pa_nil))))) pa_nil))))))) pss_nil)
      (pss_cons (ps_if (PW.pt (pw_or (pt_cmpR op_ne (pe_callB (isiK (K := K) rfl) (by rfl) T.b_isinstance (by decide +kernel) (pa_cons (pv 0) (pa_cons (pe_bltn (v := .ty "bool") (by rfl) T.b_bool (by decide +kernel) rfl) pa_nil))) (pe_callB (isiK (K := K) rfl) (by rfl) T.b_isinstance (by decide +kernel) (pa_cons (pv 1) (pa_cons (pe_bltn (v := .ty "bool") (by rfl) T.b_bool (by decide +kernel) rfl) pa_nil))) (nomark _)) (pw_or1 (pt_cmpR op_ne (pe_callB (isiK (K := K) rfl) (by rfl) T.b_isinstance (by decide +kernel) (pa_cons (pv 0) (pa_cons (pe_bltn (v := .ty "int") (by rfl) T.b_int (by decide +kernel) rfl) pa_nil))) (pe_callB (isiK (K := K) rfl) (by rfl) T.b_isinstance (by decide +kernel) (pa_cons (pv 1) (pa_cons (pe_bltn (v := .ty "int") (by rfl) T.b_int (by decide +kernel) rfl) pa_nil))) (nomark _))))) (pss_one (ps_ret pe_bl)) pss_nil)
      (pss_one (ps_ret (pe_cmpR (eqDK (K := K) rfl hr.units) (pv 0) (pv 1) (nomark _)))))), ?_⟩
    refine ⟨_, rfl, rfl, fun tp H1 s1 htp htp2 => ?_⟩
    have lk : Look2 K H1 n v w d := look2 (h1.same s1) (h2.same s1)
    cases lk with
    | leaf t bb bi e ty kl kt kb ki dp sh =>
      subst e
      refine ⟨_, tp, _, _, [.type "list", .type "tuple"], false, rfl, htp2, .cons (.ty _) (.cons (.ty _) .nil), ty, kitAny_cons (kit_ty kl) (fun _ => kitAny_cons (kit_ty kt) (fun _ => rfl) (fun z => nomatch z)) (fun z => nomatch z), false, rfl, iteF ?_⟩
      refine ⟨_, rfl, _, _, _, _, _, rfl, .ty _, ty, kit_ty kb, _, rfl, _, _, _, _, _, rfl, .ty _, ty, kit_ty kb, rfl, _, rfl, ?_⟩
      rw [decide_eq_true rfl]
      refine iteF ?_
      refine ⟨_, rfl, _, _, _, _, _, rfl, .ty _, ty, kit_ty ki, _, rfl, _, _, _, _, _, rfl, .ty _, ty, kit_ty ki, rfl, _, rfl, ?_⟩
      rw [decide_eq_true rfl]
      refine iteF ?_
      refine ⟨_, rfl, _, rfl, d, d, dp, dp, sh, sh, ?_⟩
      rw [SeqAt.eqv_refl _ (SeqAt.canLay_of_shaped sh)]
      exact q _ s1
    | both t bl bt a b xs ys ds e1 e2 ty1 ty2 kl kt kk lx ly l9 dx dy hab =>
      subst e1 e2
      refine ⟨_, tp, _, _, [.type "list", .type "tuple"], true, rfl, htp2, .cons (.ty _) (.cons (.ty _) .nil), ty2, kitAny_cons (kit_ty kl) (fun z => kitAny_cons (kit_ty kt) (fun y => nomatch (kk z).symm.trans y) (fun _ => rfl)) (fun _ => rfl), true, rfl, iteT ?_⟩
      refine ⟨_, rfl, _, _, _, _, _, rfl, .ty _, ty1, kit_ty kl, _, rfl, _, _, _, _, _, rfl, .ty _, ty2, kit_ty kl, rfl, _, rfl, ?_⟩
      rw [decide_eq_true rfl]
      refine iteF ?_
      refine ⟨_, rfl, _, _, _, _, _, rfl, .ty _, ty1, kit_ty kt, _, rfl, _, _, _, _, _, rfl, .ty _, ty2, kit_ty kt, rfl, _, rfl, ?_⟩
      rw [decide_eq_true rfl]
      refine iteF ?_
      have hlen : ∀ (c : Addr) (zs : List V), (H1 c = some (.lst zs) ∨ SqT K H1 c zs) → LenV K (.ref c) H1 zs.length := fun c zs h => by
        rcases h with h | h
        · exact .inl ⟨_, SqL.of h, rfl⟩
        · exact .inr ⟨_, h, rfl⟩
      refine ⟨_, rfl, _, _, rfl, hlen a xs (hab.imp (·.1) (·.1)), _, rfl, _, _, rfl, hlen b ys (hab.imp (·.2) (·.2)), rfl, _, rfl, ?_⟩
      have el : decide (V.int (xs.length : Int) = V.int (ys.length : Int)) = true := decide_eq_true (by rw [lx, ly])
      rw [el]
      refine iteT ?_
      -- the turns of zip
      have turn : ∀ (D : Addr) (H2 : Hp) (i : Nat) (T0 : Addr), H1 D = none → i < xs.length → Same H1 H2 → H2 D = some (.lst (List.replicate i (.bl true))) → H2 T0 = none →
          sp_l_same K n [xs.getD i .non, ys.getD i .non] (upd H2 T0 (.tup [xs.getD i .non, ys.getD i .non])) (fun y H4 => ∃ acc, H4 D = some (.lst acc) ∧ acc.length < sizeLine ∧ (Same H1 (upd H4 D (.lst (acc ++ [y]))) ∧ (upd H4 D (.lst (acc ++ [y]))) D = some (.lst (List.replicate (i + 1) (.bl true))))) E0 := by
        intro D H2 i T0 hD hi sm hd hT
        have sT : Same H2 (upd H2 T0 (.tup [xs.getD i .non, ys.getD i .non])) := same_new hT
        have gx := getD_of hi
        have gy := getD_of (show i < ys.length by omega)
        have gd : ds[i]? = some ds[i] := List.getElem?_eq_getElem (by omega)
        refine ⟨_, _, ds[i], rfl, (dx i _ _ gx gd).same (sm.trans sT), (dy i _ _ gy gd).same (sm.trans sT), fun H4 s4 => ?_⟩
        refine ⟨_, s4 _ _ (sT _ _ hd), by rw [List.length_replicate]; exact small' (by omega), Same.put ((sm.trans sT).trans s4) hD, ?_⟩
        rw [upd_same, List.replicate_succ'] <;> rfl
      refine ⟨_, rfl, _, rfl, a, b, xs, ys, rfl, ?_⟩
      have fin : ∀ (D : Addr) (H2 : Hp), Same H1 H2 ∧ H2 D = some (.lst (List.replicate xs.length (.bl true))) → ∃ (a : Addr) (bs : List Bool), [V.ref D] = [V.ref a] ∧ SqL K H2 a (bs.map V.bl) ∧ Q (.bl (bs.all id)) H2 := fun D H2 ⟨sm, hd⟩ => by
        obtain ⟨t1, t2⟩ := all_true xs.length
        refine ⟨D, List.replicate xs.length true, rfl, SqL.of (by rw [t1]; exact hd), ?_⟩
        rw [t2]
        exact q H2 (s1.trans sm)
      rcases hab with ⟨ha, hb⟩ | ⟨ha, hb⟩
      · refine .inl ⟨SqL.of ha, SqL.of hb, fun D hD => ?_⟩
        refine lc_pair (n := xs.length) (St := fun H2 => SqL K H2 a xs ∧ SqL K H2 b ys) (fun i H2 => zipL_go rfl (by omega)) (fun H2 => zipL_stop rfl) (fun i H2 v H3 => zipL_yld rfl (by omega))
          (fun i H2 => Same H1 H2 ∧ H2 D = some (.lst (List.replicate i (.bl true)))) ⟨same_new hD, upd_same⟩ (fun i H2 _ z => ⟨SqL.of (z.1 _ _ ha), SqL.of (z.1 _ _ hb)⟩) (fun i T0 H2 hi z hT => ?_) (fun H2 z => fin D H2 z)
        refine ⟨T0, _, rfl, SqT.of upd_same, rfl, _, _, rfl, _, _, rfl, rfl, rfl, yesT ?_⟩
        exact ⟨_, rfl, _, rfl, turn D H2 i T0 hD hi z.1 z.2 hT⟩
      · refine .inr ⟨ha, hb, fun D hD => ?_⟩
        refine lc_pair (n := xs.length) (St := fun H2 => SqT K H2 a xs ∧ SqT K H2 b ys) (fun i H2 => zipT_go rfl (by omega)) (fun H2 => zipT_stop rfl) (fun i H2 v H3 => zipT_yld rfl (by omega))
          (fun i H2 => Same H1 H2 ∧ H2 D = some (.lst (List.replicate i (.bl true)))) ⟨same_new hD, upd_same⟩ (fun i H2 _ z => ⟨Same.tup z.1 ha, Same.tup z.1 hb⟩) (fun i T0 H2 hi z hT => ?_) (fun H2 z => fin D H2 z)
        refine ⟨T0, _, rfl, SqT.of upd_same, rfl, _, _, rfl, _, _, rfl, rfl, rfl, yesT ?_⟩
        exact ⟨_, rfl, _, rfl, turn D H2 i T0 hD hi z.1 z.2 hT⟩
theorem ok_l_same (T : All K mg) : FnOk P w K mg base CX0 8 T.f_l_same T.fd_l_same ["_law_found", "_law_due_here"] (sp_l_same K 8) := by
  have go : ∀ n, FnOk P w K mg base CX0 n T.f_l_same T.fd_l_same ["_law_found", "_law_due_here"] (sp_l_same K n) := fun n => by
    induction n with
    | zero => exact none_l_same
    | succ n ih => exact step_l_same T ih
  exact go _

end
end KR
namespace KR
open PySem PySem.Spec PyProof.Rows L2
section
variable {P : Program} {w : World} {K : PySem.W.Frag} {mg : Str → Option Value} {base : Heap}
/-- a name without the letter q -/
structure NmQ (x : Str) : Prop where
  lo : 1 ≤ x.length
  hi : x.length ≤ 8
  az : ∀ c ∈ TL.tl x, 97 ≤ c ∧ c ≤ 122 ∧ c ≠ 113
theorem NmQ.nm {x : Str} (h : NmQ x) : Nm x := ⟨h.lo, h.hi, fun c hc => ⟨(h.az c hc).1, (h.az c hc).2.1⟩⟩
/-! ### texts of small letters -/
structure Lo (n : Nat) (y : Str) : Prop where
  len : y.length ≤ n
  az : ∀ c ∈ TL.tl y, 97 ≤ c ∧ c ≤ 122 ∧ c ≠ 113
theorem Lo.app {n m : Nat} {x y : Str} (h : Lo n x) (k : Lo m y) : Lo (n + m) (x ++ y) := by
  have e : TL.tl (x ++ y) = TL.tl x ++ TL.tl y := TL.tl_append x y
  refine ⟨?_, fun c hc => ?_⟩
  · rw [TL.len_tl, e, List.length_append, ← TL.len_tl, ← TL.len_tl]
    exact Nat.add_le_add h.len k.len
  · rw [e] at hc
    exact (List.mem_append.mp hc).elim (h.az c) (k.az c)
theorem Lo.up {n m : Nat} {y : Str} (h : Lo n y) (le : n ≤ m) : Lo m y := ⟨Nat.le_trans h.len le, h.az⟩
theorem Lo.two {n m : Nat} {x y : Str} (h : Lo n x) (k : Lo m y) (le : n + m ≤ 100000 := by decide) : x.length + y.length ≤ sizeLine := small (Nat.le_trans (Nat.add_le_add h.len k.len) le)
theorem Lo.one {c : Nat} (h : 97 ≤ c ∧ c ≤ 122 ∧ c ≠ 113) : Lo 1 (S [c]) := ⟨Nat.le_refl 1, fun d hd => by rw [List.mem_singleton.mp hd]; exact h⟩
theorem Lo.of {l : List Nat} {n : Nat} (h : l.length ≤ n) (k : ∀ c ∈ l, 97 ≤ c ∧ c ≤ 122 ∧ c ≠ 113) : Lo n (S l) := ⟨by rw [S_len]; exact h, k⟩
theorem lo_rep {c m : Nat} (hc : 97 ≤ c ∧ c ≤ 122 ∧ c ≠ 113) (hm : m < 6) : Lo 5 (Txt.mul (S [c]) (m : Int)) := by
  have all : ∀ (l : List Nat), (∀ d ∈ l, d = c) → ∀ d ∈ l, 97 ≤ d ∧ d ≤ 122 ∧ d ≠ 113 := fun l h d hd => by rw [h d hd]; exact hc
  have ms : m = 0 ∨ m = 1 ∨ m = 2 ∨ m = 3 ∨ m = 4 ∨ m = 5 := by omega
  rcases ms with rfl | rfl | rfl | rfl | rfl | rfl
  · exact (show Lo 5 (S []) from Lo.of (by decide) (all _ (by simp)))
  · exact (show Lo 5 (S [c]) from Lo.of (by show 1 ≤ 5; decide) (all _ (by simp)))
  · exact (show Lo 5 (S [c, c]) from Lo.of (by show 2 ≤ 5; decide) (all _ (by simp)))
  · exact (show Lo 5 (S [c, c, c]) from Lo.of (by show 3 ≤ 5; decide) (all _ (by simp)))
  · exact (show Lo 5 (S [c, c, c, c]) from Lo.of (by show 4 ≤ 5; decide) (all _ (by simp)))
  · exact (show Lo 5 (S [c, c, c, c, c]) from Lo.of (by show 5 ≤ 5; decide) (all _ (by simp)))
abbrev lets : Str := "abcdefghijklmnoprstuvwxyz"
/-- a letter by its place -/
def lt (i : Nat) : Nat := (lets.cps.toList[i]?).getD 97
theorem lt_inj : ∀ i, i < 25 → ∀ j, j < 25 → lt i = lt j → i = j := by decide +kernel
theorem lt_az (i : Nat) : 97 ≤ lt i ∧ lt i ≤ 122 ∧ lt i ≠ 113 := by
  have al : ∀ c ∈ lets.cps.toList, 97 ≤ c ∧ c ≤ 122 ∧ c ≠ 113 := by decide +kernel
  unfold lt
  cases e : lets.cps.toList[i]? with
  | none => exact ⟨by decide, by decide, by decide⟩
  | some c => exact al c (List.mem_of_getElem? e)
theorem let_lt {y : Int} (h0 : 0 ≤ y) (h1 : y < 25) : atI lets.cps.toList y = some (lt y.toNat) := by
  obtain ⟨k, rfl⟩ : ∃ k : Nat, y = (k : Int) := ⟨y.toNat, by omega⟩
  have hl : lets.cps.toList.length = 25 := by decide +kernel
  have e : lets.cps.toList[k]? = some (lets.cps.toList[k]'(by omega)) := List.getElem?_eq_getElem (by omega)
  refine (atI_nat (j := k) e).trans ?_
  rw [Int.toNat_natCast]
  unfold lt
  rw [e] <;> rfl
theorem lets_len : lets.length ≤ sizeLine := small (by decide +kernel)
/-- the name of a number below 625 -/
def nmOf (stem : Str) (v : Int) : Str := stem ++ S [lt (v / 25).toNat] ++ S [lt (v % 25).toNat]
theorem nmOf_inj {stem : Str} {v u : Int} (v0 : 0 ≤ v) (v1 : v < 625) (u0 : 0 ≤ u) (u1 : u < 625) (e : nmOf stem v = nmOf stem u) : v = u := by
  have e1 := congrArg TL.tl e
  unfold nmOf at e1
  rw [TL.tl_append, TL.tl_append, TL.tl_append, TL.tl_append, List.append_assoc, List.append_assoc] at e1
  have e2 := List.append_cancel_left e1
  have e3 : [lt (v / 25).toNat, lt (v % 25).toNat] = [lt (u / 25).toNat, lt (u % 25).toNat] := e2
  rw [List.cons.injEq, List.cons.injEq] at e3
  have a1 := lt_inj _ (by omega) _ (by omega) e3.1
  have a2 := lt_inj _ (by omega) _ (by omega) e3.2.1
  omega
/-- the number of turn k -/
def vAt (a st : Int) (k : Nat) : Int := (a + st * (k : Int)) % 625
theorem vAt_box (a st : Int) (k : Nat) : 0 ≤ vAt a st k ∧ vAt a st k < 625 := ⟨Int.emod_nonneg _ (by decide), Int.emod_lt_of_pos _ (by decide)⟩
theorem vAt_inj {a st : Int} (h : st = 1 ∨ st = 26 ∨ st = 7 ∨ st = 251) {i j : Nat} (hi : i < 48) (hj : j < 48) (e : vAt a st i = vAt a st j) : i = j := by
  unfold vAt at e
  rcases h with rfl | rfl | rfl | rfl <;> omega
theorem nodup_sub_len : ∀ {l m : List Str}, l.Nodup → (∀ x ∈ l, x ∈ m) → l.length ≤ m.length
  | [], m, _, _ => Nat.zero_le _
  | x :: l, m, h, s => by
    have hx := s x List.mem_cons_self
    rw [List.nodup_cons] at h
    have r := nodup_sub_len (m := m.erase x) h.2 fun y hy => (List.mem_erase_of_ne (fun z : y = x => h.1 (z ▸ hy))).mpr (s y (List.mem_cons_of_mem _ hy))
    rw [List.length_erase_of_mem hx] at r
    have := List.length_pos_of_mem hx
    rw [List.length_cons]
    omega
theorem names_nodup {stem : Str} {a st : Int} (h : st = 1 ∨ st = 26 ∨ st = 7 ∨ st = 251) : ∀ n, n ≤ 48 → ((List.range n).map fun k => nmOf stem (vAt a st k)).Nodup := by
  intro n hn
  refine List.pairwise_map.mpr (List.Pairwise.imp_of_mem (fun {i j} hi hj ne e => ne ?_) (List.nodup_range (n := n)))
  exact vAt_inj h (by have := List.mem_range.mp hi; omega) (by have := List.mem_range.mp hj; omega) (nmOf_inj (vAt_box ..).1 (vAt_box ..).2 (vAt_box ..).1 (vAt_box ..).2 e)
theorem keys_dd : ∀ (l : List Str) (kvs : List (Key × V)) (acc : List Str), kvs.map (·.1) = acc.map (Sum.inr : Str → Key) → ((mergeK kvs (l.map fun y => ((Sum.inr y : Key), V.bl true))).map (·.1)) = (dd acc l).map (Sum.inr : Str → Key)
  | [], kvs, acc, h => h
  | x :: l, kvs, acc, h => by
    have mem : (kvs.any fun kv => decide (kv.1 = (Sum.inr x : Key))) = true ↔ x ∈ acc := by
      have m1 : (Sum.inr x : Key) ∈ kvs.map (·.1) ↔ x ∈ acc := by
        rw [h, List.mem_map]
        exact ⟨fun ⟨y, hy, e⟩ => by cases e; exact hy, fun hy => ⟨x, hy, rfl⟩⟩
      rw [← m1, List.any_eq_true, List.mem_map]
      exact ⟨fun ⟨y, hy, e⟩ => ⟨y, hy, of_decide_eq_true e⟩, fun ⟨y, hy, e⟩ => ⟨y, hy, decide_eq_true e⟩⟩
    have step : (putK kvs (Sum.inr x : Key) (V.bl true)).map (·.1) = (if x ∈ acc then acc else acc ++ [x]).map (Sum.inr : Str → Key) := by
      unfold putK
      by_cases c : x ∈ acc
      · rw [if_pos (mem.mpr c), if_pos c, ← h, List.map_map]
        refine List.map_congr_left fun y _ => ?_
        show (if y.1 = Sum.inr x then (y.1, V.bl true) else y).1 = y.1
        split <;> rfl
      · rw [if_neg (fun z => c (mem.mp z)), if_neg c, List.map_append, List.map_append, h] <;> rfl
    exact keys_dd l _ _ step
theorem keys_dist (l : List Str) : ((mergeK [] (l.map fun y => ((Sum.inr y : Key), V.bl true))).map fun kv => kV kv.1) = (dist l).map V.str := by
  have e := congrArg (List.map kV) (keys_dd l [] [] rfl)
  rw [List.map_map, List.map_map] at e
  exact e
theorem cut_take {xs : List V} {n : Nat} (h : n ≤ xs.length) : cutV xs none (some (n : Int)) = xs.take n := by
  unfold cutV
  rw [HT.sIx_none, HT.sIx_nat, List.drop_zero, Nat.sub_zero, Nat.min_eq_left h]
theorem pairs_of {K : PySem.W.Frag} {H : Hp} : ∀ (l : List (Addr × Str)), (∀ z ∈ l, H z.1 = some (.tup [.str z.2, .bl true])) → Paired (fun p (kv : Key × V) => SqT K H p [kV kv.1, kv.2]) (l.map (·.1)) (l.map fun z => (Sum.inr z.2, V.bl true))
  | [], _ => .nil
  | z :: l, h => .cons (SqT.of (h z List.mem_cons_self)) (pairs_of l fun y hy => h y (List.mem_cons_of_mem _ hy))
def sp_l_names : Sp := fun vs H Q _ => ∃ (p : Addr) (n many : Nat), vs = [.ref p, .int many] ∧ 1 ≤ many ∧ many ≤ 48 ∧ BoxAt H p n ∧ n ≤ 999990000 ∧ ∀ (l : Addr) (ts : List Str) (H' : Hp), H' l = some (.lst (ts.map V.str)) → ts.length = many → ts.Nodup → (∀ y ∈ ts, NmQ y) → BoxAt H' p (n + 6) → Fr p H H' → Q (.ref l) H'
theorem ok_l_names (T : All K mg) : FnOk P w K mg base CX0 2 T.f_l_names T.fd_l_names ["_law_box_here", "_law_many"] sp_l_names := by
  refine T.d_l_names.fn.ok sc_l_names (fun vs H Q E h => ?_) (fun cdv A outer s H vs Q E hr h => ?_)
  · obtain ⟨p, n, many, rfl, _⟩ := h
    rfl
  · obtain ⟨p, n, many, rfl, hm1, hm2, hB, hn, q⟩ := h
    refine ⟨_, (pss_cons (ps_par (i := 2) (j := 3) (by rfl) sc_l_names.nd rfl rfl (by decide) rfl rfl (pa_cons pe_str (pa_cons (pe_lstI pa_nil) pa_nil)) (by rfl))
      (pss_cons (ps_J (ps_if (pt_cmpR op_eq (pe_call (ok_l_take T) hr (by rfl) T.d_l_take.mg T.d_l_take.fn.kp T.d_l_take.b .nil pass0 (pa_cons (pv 0) (pa_cons pe_int pa_nil))) pe_int (nomark _)) (pss_cons (ps_set (i := 4) sc_l_names.nd rfl (by first | exact Or.inl rfl | exact Or.inr rfl) pe_str)
      (pss_one (ps_set (i := 3) sc_l_names.nd rfl (by first | exact Or.inl rfl | exact Or.inr rfl) (pe_split (pv 4) pe_str)))) pss_nil))
      (pss_cons (ps_par (i := 5) (j := 6) (by rfl) sc_l_names.nd rfl rfl (by decide) rfl rfl (pa_cons (pe_call (ok_l_take T) hr (by rfl) T.d_l_take.mg T.d_l_take.fn.kp T.d_l_take.b .nil pass0 (pa_cons (pv 0) (pa_cons pe_int pa_nil))) (pa_cons (pe_ix (ixL (K := K) rfl) (pe_lstI (pa_cons pe_int (pa_cons pe_int (pa_cons pe_int (pa_cons pe_int pa_nil))))) (pe_call (ok_l_take T) hr (by rfl) T.d_l_take.mg T.d_l_take.fn.kp T.d_l_take.b .nil pass0 (pa_cons (pv 0) (pa_cons pe_int pa_nil))) (fun _ _ => rfl)) pa_nil)) (by rfl))
      (pss_cons (ps_par (i := 7) (j := 8) (by rfl) sc_l_names.nd rfl rfl (by decide) rfl rfl (pa_cons (pe_op op_mul_str (pe_ix ix_str (pv 2) (pe_call (ok_l_take T) hr (by rfl) T.d_l_take.mg T.d_l_take.fn.kp T.d_l_take.b .nil pass0 (pa_cons (pv 0) (pa_cons pe_int pa_nil))) (fun _ _ => rfl)) (pe_call (ok_l_take T) hr (by rfl) T.d_l_take.mg T.d_l_take.fn.kp T.d_l_take.b .nil pass0 (pa_cons (pv 0) (pa_cons pe_int pa_nil)))) (pa_cons (pe_ix ix_str (pv 2) (pe_call (ok_l_take T) hr (by rfl) T.d_l_take.mg T.d_l_take.fn.kp T.d_l_take.b .nil pass0 (pa_cons (pv 0) (pa_cons pe_int pa_nil))) (fun _ _ => rfl)) pa_nil)) (by rfl))
      (pss_cons (ps_for PassesOwn.never rfl (pi_range1 (by rfl) T.b_range (pa_cons (pv 1) pa_nil)) (pg_name (i := 9) sc_l_names.nd rfl (by first | exact Or.inl rfl | exact Or.inr rfl)) (pss_cons (ps_asg (pe_callB call_divmodW (by rfl) T.b_divmod (by decide +kernel) (pa_cons (pe_op op_mod (pe_op op_add (pv 5) (pe_op op_mulX (pv 6) (pv 9))) pe_int) (pa_cons pe_int pa_nil))) (pg_tupK (K := K) rfl rfl (pgs_cons (pg_name (i := 10) sc_l_names.nd rfl (by first | exact Or.inl rfl | exact Or.inr rfl)) (pgs_cons (pg_name (i := 11) sc_l_names.nd rfl (by first | exact Or.inl rfl | exact Or.inr rfl)) pgs_nil))))
      (pss_cons (ps_set (i := 12) sc_l_names.nd rfl (by first | exact Or.inl rfl | exact Or.inr rfl) (pe_op op_add_str (pe_op op_add_str (pv 7) (pe_ix ix_str (pv 2) (pv 10) (fun _ _ => rfl))) (pe_ix ix_str (pv 2) (pv 11) (fun _ _ => rfl))))
      (pss_one (ps_expr (pe_bm PySem.F.plainAttrs_list PySem.F.slot_list_extend PySem.F.type_list_extend mt_extend (pv 3) (pa_cons (pe_slice (slL (K := K) rfl) (pe_lstI (pa_cons (pv 12) (pa_cons (pe_op op_add_str (pv 12) (pv 8)) pa_nil))) po_none (po_some (pe_op op_add pe_int (pe_callTy call_int1 (by rfl) T.b_int (by decide +kernel) (pa_cons (pe_cmpR op_eq (pe_op op_mod (pv 9) pe_int) pe_int (nomark _)) pa_nil))))) pa_nil)))))))
      (pss_one (ps_ret (pe_slice (slL (K := K) rfl) (pe_callTy (call_listD rfl) (by rfl) T.b_list (by decide +kernel) (pa_cons (pe_callTy (call_dictP rfl) (by rfl) T.b_dict (by decide +kernel) (pa_cons (pe_lc (own := [("_law_name_here", 12)]) (g := gName 12) (tt := tYes) (by rfl) sc_l_names.nd (pi_listK (K := K) rfl (pv 3)) (blkOk_by (own := [("_law_name_here", 12)]) (N := ["_law_box_here", "_law_many", "_law_letters", "_law_found", "_law_some", "_law_first", "_law_step_here", "_law_stem", "_law_tail", "_law_k", "_law_one", "_law_other", "_law_name_here"]) (sc := defScope s_l_names) (by decide +kernel)) (fun _ _ _ _ _ => (pg_name (i := 12) sc_l_names.nd rfl (by first | exact Or.inl rfl | exact Or.inr rfl))) (fun _ _ _ _ _ => pts_nil) (fun _ _ _ _ _ => (pe_tupI (pa_cons (pv 12) (pa_cons pe_bl pa_nil))))) pa_nil)) pa_nil)) po_none (po_some (pv 1)))))))))), ?_⟩
    refine ⟨rfl, fun fl0 H1 s1 n1 h1 => ⟨_, _, rfl, ?_⟩⟩
    have B1 := hB.same s1
    refine ⟨fun σ H3 => ∃ (fl2 : Addr) (u4 : Option V) (ts : List Str), σ = [some (.ref p), some (.int many), some (.str lets), some (.ref fl2), u4, none, none, none, none, none, none, none, none] ∧ H3 fl2 = some (.lst (ts.map V.str)) ∧ (∀ y ∈ ts, NmQ y) ∧ ts.length ≤ 16 ∧ BoxAt H3 p (n + 1) ∧ Fr p H H3 ∧ fl2 ≠ p ∧ H fl2 = none, ?_, ?_⟩
    case' refine_2 =>
      refine ⟨_, rfl, p, 3, n, rfl, B1, by omega, by decide, by decide, fun z H2 z0 z1 B2 F2 => ⟨rfl, _, rfl, ?_⟩⟩
      by_cases hz : z = 0
      · refine ite_iT hz ?_
        refine ⟨_, rfl, ⟨_, rfl⟩, _, _, rfl, rfl, rfl, small (by decide +kernel), fun fl hfl => ?_⟩
        have sm := same_new (o := .lst ((Txt.split ("kettle mould at juice ladle skim stop start strike drain knock drips untell vat sums never" : Str) (" " : Str)).map V.str)) hfl
        have lg : ∀ y ∈ Txt.split ("kettle mould at juice ladle skim stop start strike drain knock drips untell vat sums never" : Str) (" " : Str), 1 ≤ y.length ∧ y.length ≤ 8 ∧ ∀ c ∈ TL.tl y, 97 ≤ c ∧ c ≤ 122 ∧ c ≠ 113 := by decide +kernel
        have ll : (Txt.split ("kettle mould at juice ladle skim stop start strike drain knock drips untell vat sums never" : Str) (" " : Str)).length ≤ 16 := by decide +kernel
        obtain ⟨ob, ho⟩ := B2.some
        exact ⟨fl, _, _, rfl, upd_same, fun y hy => ⟨(lg y hy).1, (lg y hy).2.1, (lg y hy).2.2⟩, ll, B2.same sm, ((Fr.of s1).trans F2).trans (.of sm), B2.new hfl, s1.free (F2.free ho hfl)⟩
      · refine ite_iF hz ?_
        exact ⟨fl0, none, [], rfl, F2 _ _ (hB.new n1) h1, fun y hy => absurd hy List.not_mem_nil, Nat.zero_le _, B2, (Fr.of s1).trans F2, hB.new n1, n1⟩
    rintro σ H3 ⟨fl2, u4, ts, rfl, hg2, its, lts, B3, F03, nfl, nof⟩
    refine ⟨_, rfl, p, 625, n + 1, rfl, B3, by omega, by decide, by decide, fun a H4 a0 a1 B4 F4 => ?_⟩
    refine ⟨rfl, fun ls H5 s5 n5 h5 => ?_⟩
    have B5 := B4.same s5
    have nls := B4.new n5
    refine ⟨_, rfl, p, 4, n + 2, rfl, B5, by omega, by decide, by decide, fun way H6 k0 k1 B6 F6 => ?_⟩
    obtain ⟨st, es, st9⟩ : ∃ st : Int, atI ([.int 1, .int 26, .int 7, .int 251] : List V) way = some (.int st) ∧ (st = 1 ∨ st = 26 ∨ st = 7 ∨ st = 251) := by
      have ks : way = 0 ∨ way = 1 ∨ way = 2 ∨ way = 3 := by omega
      rcases ks with e | e | e | e <;> subst e
      · exact ⟨_, rfl, .inl rfl⟩
      · exact ⟨_, rfl, .inr (.inl rfl)⟩
      · exact ⟨_, rfl, .inr (.inr (.inl rfl))⟩
      · exact ⟨_, rfl, .inr (.inr (.inr rfl))⟩
    refine ⟨ls, _, way, _, rfl, rfl, SqL.of (F6 _ _ nls h5), es, ?_⟩
    refine ⟨_, _, rfl, ?_⟩
    refine ⟨_, rfl, _, rfl, p, 25, n + 3, rfl, B6, by omega, by decide, by decide, fun u H7 u0 u1 B7 F7 => ?_⟩
    refine ⟨_, _, _, rfl, rfl, lets_len, let_lt u0 u1, ?_⟩
    refine ⟨_, rfl, p, 6, n + 4, rfl, B7, by omega, by decide, by decide, fun v H8 v0 v1 B8 F8 => ?_⟩
    obtain ⟨m, rfl⟩ : ∃ m : Nat, v = (m : Int) := ⟨v.toNat, by omega⟩
    refine ⟨_, m, rfl, rfl, by show 1 * m ≤ 100000; omega, by omega, ?_⟩
    have gst : Lo 5 (Txt.mul (S [lt u.toNat]) (m : Int)) := lo_rep (lt_az _) (by omega)
    have est : Txt.mul ⟨#[lt u.toNat]⟩ (m : Int) = Txt.mul (S [lt u.toNat]) (m : Int) := rfl
    rw [est]
    generalize Txt.mul (S [lt u.toNat]) (m : Int) = stem at gst
    refine ⟨_, rfl, _, rfl, p, 25, n + 5, rfl, B8, by omega, by decide, by decide, fun u' H9 u0' u1' B9 F9 => ?_⟩
    refine ⟨_, _, _, rfl, rfl, lets_len, let_lt u0' u1', ?_⟩
    refine ⟨_, _, rfl, ?_⟩
    have gtl : Lo 1 (S [lt u'.toNat]) := Lo.one (lt_az _)
    have F39 : Fr p H3 H9 := F4.trans ((Fr.of s5).trans (F6.trans (F7.trans (F8.trans F9))))
    have hf9 := F39 _ _ nfl hg2
    refine ⟨_, rfl, many, rfl, by omega, by omega, for_range (lo := 0) (n := many) (fun i σ H' => ∃ (ts' : List Str) (v8 v9 v10 v11 : Option V), σ = [some (.ref p), some (.int many), some (.str lets), some (.ref fl2), u4, some (.int a), some (.int st), some (.str stem), some (.str (S [lt u'.toNat])), v8, v9, v10, v11] ∧ H' fl2 = some (.lst (ts'.map V.str)) ∧ (∀ y ∈ ts', NmQ y) ∧ ts'.length ≤ 16 + 2 * i ∧ (∀ j, j < i → nmOf stem (vAt a st j) ∈ ts') ∧ BoxAt H' p (n + 6) ∧ Fr p H H')
      ⟨ts, none, none, none, none, rfl, hf9, fun y hy => its y hy, by omega, fun j hj => absurd hj (Nat.not_lt_zero j), B9, F03.trans F39⟩ ?_ ?_⟩
    · rintro i σ Ha hi ⟨ts', v8, v9, v10, v11, rfl, hfa, gta, lta, ina, Ba, Fa⟩
      refine ⟨_, rfl, _, rfl, _, rfl, _, _, rfl, rfl, mulL (by omega), _, _, rfl, rfl, _, _, rfl, rfl, (by show (0 : Int) < 625; decide), ?_⟩
      have e0 : (a + st * (0 + (i : Int))) % 625 = vAt a st i := by rw [Int.zero_add] <;> rfl
      have X0 : 0 ≤ ((a + st * (0 + (i : Int))) % 625) := Int.emod_nonneg _ (by decide)
      have X1 : ((a + st * (0 + (i : Int))) % 625) < 625 := Int.emod_lt_of_pos _ (by decide)
      refine ⟨_, _, rfl, ⟨by decide, PyProof.noPylong_of_log2 (by decide +kernel)⟩, fun dp hdp => ?_⟩
      have smd := same_new (o := .tup [.int (((a + st * (0 + (i : Int))) % 625) / 25), .int (((a + st * (0 + (i : Int))) % 625) % 25)]) hdp
      refine ⟨dp, _, rfl, SqT.of upd_same, rfl, _, _, rfl, _, _, rfl, rfl, ?_⟩
      have y0 : 0 ≤ ((a + st * (0 + (i : Int))) % 625) / 25 := Int.ediv_nonneg X0 (by decide)
      have y1 : ((a + st * (0 + (i : Int))) % 625) / 25 < 25 := by omega
      have w0 : 0 ≤ ((a + st * (0 + (i : Int))) % 625) % 25 := by omega
      have w1 : ((a + st * (0 + (i : Int))) % 625) % 25 < 25 := by omega
      have g3 : Lo 1 (S [lt (((a + st * (0 + (i : Int))) % 625) / 25).toNat]) := Lo.one (lt_az _)
      have g4 : Lo 1 (S [lt (((a + st * (0 + (i : Int))) % 625) % 25).toNat]) := Lo.one (lt_az _)
      have gn := (gst.app g3).app g4
      refine ⟨_, rfl, _, rfl, _, rfl, _, _, _, rfl, rfl, lets_len, let_lt y0 y1, _, _, rfl, rfl, Lo.two gst g3, _, rfl, _, rfl, _, _, _, rfl, rfl, lets_len, let_lt w0 w1, _, _, rfl, rfl, Lo.two (gst.app g3) g4, ?_⟩
      have hfb := smd _ _ hfa
      refine ⟨_, rfl, .inl ⟨rfl, _, SqL.of hfb⟩, ?_⟩
      refine ⟨_, rfl, _, rfl, _, rfl, _, _, rfl, rfl, Lo.two gn gtl, rfl, fun sl Hb sb nb hb => ?_⟩
      refine ⟨_, rfl, _, _, rfl, rfl, (by show (0 : Int) < 4; decide), rfl, .inr ⟨_, rfl, _, _, rfl, rfl, _, rfl, ?_⟩⟩
      have n2 : ∀ y : Str, Lo 8 y → 2 ≤ y.length → NmQ y := fun y h l => ⟨by omega, h.len, h.az⟩
      have en : stem ++ S [lt (((a + st * (0 + (i : Int))) % 625) / 25).toNat] ++ S [lt (((a + st * (0 + (i : Int))) % 625) % 25).toNat] = nmOf stem (vAt a st i) := by rw [← e0] <;> rfl
      have l2 : ∀ y : Str, 2 ≤ (stem ++ S [lt (((a + st * (0 + (i : Int))) % 625) / 25).toNat] ++ S [lt (((a + st * (0 + (i : Int))) % 625) % 25).toNat] ++ y).length := fun y => by
        rw [TL.len_tl, TL.tl_append, TL.tl_append, TL.tl_append, List.length_append, List.length_append, List.length_append]
        show 2 ≤ _ + 1 + 1 + _
        omega
      have l3 : 2 ≤ (stem ++ S [lt (((a + st * (0 + (i : Int))) % 625) / 25).toNat] ++ S [lt (((a + st * (0 + (i : Int))) % 625) % 25).toNat]).length := by
        rw [TL.len_tl, TL.tl_append, TL.tl_append, List.length_append, List.length_append]
        show 2 ≤ _ + 1 + 1
        omega
      have l4 := gn.app gtl
      refine ⟨sl, _, rfl, SqL.of hb, fun p2 Hc sc nc hc => ?_⟩
      have pick : ∀ b : Bool, ∃ zs : List Str, cutV [V.str (stem ++ S [lt (((a + st * (0 + (i : Int))) % 625) / 25).toNat] ++ S [lt (((a + st * (0 + (i : Int))) % 625) % 25).toNat]), V.str ((stem ++ S [lt (((a + st * (0 + (i : Int))) % 625) / 25).toNat] ++ S [lt (((a + st * (0 + (i : Int))) % 625) % 25).toNat]) ++ S [lt u'.toNat])] none (some (1 + (if b = true then (1 : Int) else 0))) = zs.map V.str ∧ (stem ++ S [lt (((a + st * (0 + (i : Int))) % 625) / 25).toNat] ++ S [lt (((a + st * (0 + (i : Int))) % 625) % 25).toNat]) ∈ zs ∧ zs.length ≤ 2 ∧ ∀ y ∈ zs, NmQ y := fun b => by
        have m1 : NmQ (stem ++ S [lt (((a + st * (0 + (i : Int))) % 625) / 25).toNat] ++ S [lt (((a + st * (0 + (i : Int))) % 625) % 25).toNat]) := n2 (stem ++ S [lt (((a + st * (0 + (i : Int))) % 625) / 25).toNat] ++ S [lt (((a + st * (0 + (i : Int))) % 625) % 25).toNat]) (gn.up (by decide)) l3
        have m2 : NmQ ((stem ++ S [lt (((a + st * (0 + (i : Int))) % 625) / 25).toNat] ++ S [lt (((a + st * (0 + (i : Int))) % 625) % 25).toNat]) ++ S [lt u'.toNat]) := n2 _ l4 (l2 _)
        cases b
        · exact ⟨[(stem ++ S [lt (((a + st * (0 + (i : Int))) % 625) / 25).toNat] ++ S [lt (((a + st * (0 + (i : Int))) % 625) % 25).toNat])], rfl, List.mem_singleton.mpr rfl, by show 1 ≤ 2; decide, fun y hy => by rw [List.mem_singleton.mp hy]; exact m1⟩
        · refine ⟨[(stem ++ S [lt (((a + st * (0 + (i : Int))) % 625) / 25).toNat] ++ S [lt (((a + st * (0 + (i : Int))) % 625) % 25).toNat]), (stem ++ S [lt (((a + st * (0 + (i : Int))) % 625) / 25).toNat] ++ S [lt (((a + st * (0 + (i : Int))) % 625) % 25).toNat]) ++ S [lt u'.toNat]], rfl, List.mem_cons_self, Nat.le_refl 2, fun y hy => ?_⟩
          rcases List.mem_cons.mp hy with e | e
          · rw [e]
            exact m1
          · rw [List.mem_singleton.mp e]
            exact m2
      obtain ⟨zs, ez, inz, lz, az⟩ := pick _
      have hc2 : Hc p2 = some (.lst (zs.map V.str)) := hc.trans (congrArg (fun l => some (HO.lst l)) ez)
      refine ⟨fl2, p2, _, _, rfl, rfl, sc _ _ (sb _ _ hfb), hc2, ?_, ?_⟩
      · rw [List.length_map, List.length_map]
        exact small (by omega)
      have sE := smd.trans (sb.trans sc)
      refine ⟨ts' ++ zs, _, _, _, _, rfl, ?_, fun y hy => (List.mem_append.mp hy).elim (gta y) (az y), by rw [List.length_append]; omega, fun j hj => ?_, (Ba.same sE).upd nfl, Fr.put' (Fa.trans (.of sE)) nof⟩
      · rw [upd_same, List.map_append] <;> rfl
      · by_cases c : j = i
        · rw [c, ← en]
          exact List.mem_append_right _ inz
        · exact List.mem_append_left _ (ina j (by omega))
    · rintro σ Ha ⟨ts', v8, v9, v10, v11, rfl, hfa, gta, lta, ina, Ba, Fa⟩
      refine ⟨_, rfl, fl2, rfl, ⟨_, SqL.of hfa⟩, fun D hD => ?_⟩
      refine lc_list (K := K) (a := fl2) (xs := ts'.map V.str) (fun i H' => ∃ l : List (Addr × Str), Same Ha H' ∧ H' D = some (.lst (l.map fun z => V.ref z.1)) ∧ l.map (·.2) = ts'.take i ∧ ∀ z ∈ l, H' z.1 = some (.tup [.str z.2, .bl true])) ⟨[], same_new hD, upd_same, rfl, fun z hz => absurd hz List.not_mem_nil⟩ (fun i H' _ ⟨_, sm, _⟩ => SqL.of (sm _ _ hfa)) (fun i z H' hz w => ?_) ?_
      · obtain ⟨l, sm, hl, el, al⟩ := w
        rw [List.getElem?_map] at hz
        cases e : ts'[i]? with
        | none =>
          rw [e] at hz
          cases hz
        | some y =>
          rw [e] at hz
          obtain rfl : V.str y = z := Option.some.inj hz
          have i30 : i < 112 := by
            have := (List.getElem?_eq_some_iff.mp e).1
            omega
          refine ⟨rfl, yesT ?_⟩
          refine ⟨_, rfl, rfl, fun tp Hb sa na ha => ?_⟩
          have hla := sa _ _ hl
          have ll2 : l.length ≤ 112 := by
            have := congrArg List.length el
            rw [List.length_map, List.length_take] at this
            omega
          refine ⟨_, hla, by rw [List.length_map]; exact small' (by omega), l ++ [(tp, y)], Same.put (sm.trans sa) hD, by rw [upd_same, List.map_append] <;> rfl, by rw [List.map_append, el, take_one e] <;> rfl, fun u hu => ?_⟩
          have keep : ∀ c xs, Hb c = some (.tup xs) → (upd Hb D (.lst ((l.map fun z => V.ref z.1) ++ [V.ref tp]))) c = some (.tup xs) := fun c xs e => by
            rw [upd_ne (ne_of e hla (by intro z; cases z))]
            exact e
          rcases List.mem_append.mp hu with h | h
          · exact keep _ _ (sa _ _ (al u h))
          · obtain rfl := List.mem_singleton.mp h
            exact keep _ _ ha
      rintro Hb ⟨l, sm, hl, el, al⟩
      rw [List.length_map, List.take_length] at el
      have hl2 : Hb D = some (.lst ((l.map (·.1)).map V.ref)) := by
        rw [hl, List.map_map] <;> rfl
      refine ⟨D, _, _, rfl, SqL.of hl2, pairs_of l al, fun dd hdd => ?_⟩
      have s2 := same_new (o := .dK (mergeK [] (l.map fun z => (Sum.inr z.2, V.bl true)))) hdd
      refine ⟨dd, _, rfl, .inl upd_same, fun lk hlk => ?_⟩
      have ek2 : (mergeK [] (l.map fun z => ((Sum.inr z.2 : Key), V.bl true))).map (fun kv => kV kv.1) = (dist ts').map V.str := by
        rw [← el, ← keys_dist, List.map_map] <;> rfl
      have many_le : many ≤ (dist ts').length := by
        have nd := names_nodup (stem := stem) (a := a) st9 many hm2
        have r := nodup_sub_len (m := dist ts') nd fun x hx => by
          obtain ⟨j, hj, rfl⟩ := List.mem_map.mp hx
          exact mem_dist.mpr (ina j (List.mem_range.mp hj))
        rw [List.length_map, List.length_range] at r
        exact r
      refine ⟨_, rfl, _, rfl, lk, _, rfl, SqL.of upd_same, fun r Hz sz nz hz => ?_⟩
      have hz2 : Hz r = some (.lst (((dist ts').take many).map V.str)) := by
        refine hz.trans (congrArg (fun l => some (HO.lst l)) ?_)
        rw [ek2, cut_take (by rw [List.length_map]; exact many_le), List.map_take]
      have sE := sm.trans (s2.trans ((same_new hlk).trans sz))
      exact q r _ Hz hz2 (by rw [List.length_take, Nat.min_eq_left many_le]) ((List.take_sublist _ _).nodup (dist_nodup ts')) (fun y hy => gta y (mem_dist.mp (List.mem_of_mem_take hy))) (Ba.same sE) (Fa.trans (.of sE))

end
end KR
namespace KR
open PySem PySem.Spec PyProof.Rows L2
section
variable {P : Program} {w : World} {K : PySem.W.Frag} {mg : Str → Option Value} {base : Heap}
def sp_p_is_number (K : PySem.W.Frag) : Sp := fun vs H Q _ => ∃ (p : Addr) (n : Nat) (v : V) (d : PyData), vs = [v] ∧ Dj K p H n v d ∧ Q (.bl (isNumD d)) H
theorem ok_p_is_number (T : All K mg) : FnOk P w K mg base CX0 1 T.f_p_is_number T.fd_p_is_number ["thing"] (sp_p_is_number K) := by
  refine T.d_p_is_number.fn.ok sc_p_is_number (fun vs H Q E h => ?_) (fun cdv A outer s H vs Q E hr h => ?_)
  · obtain ⟨p, n, v, d, rfl, _⟩ := h
    rfl
  · obtain ⟨p, n, v, d, rfl, hd, q⟩ := h
    refine ⟨_, (pss_one (ps_ret (pe_and (pe_callB (isiK (K := K) rfl) (by rfl) T.b_isinstance (by decide +kernel) (pa_cons (pv 0) (pa_cons (pe_bltn (v := .ty "int") (by rfl) T.b_int (by decide +kernel) rfl) pa_nil))) (pe_one (pe_not (pe_callB (isiK (K := K) rfl) (by rfl) T.b_isinstance (by decide +kernel) (pa_cons (pv 0) (pa_cons (pe_bltn (v := .ty "bool") (by rfl) T.b_bool (by decide +kernel) rfl) pa_nil)))))))), ?_⟩
    obtain ⟨t, k⟩ := hd.kinds
    refine ⟨_, rfl, _, _, _, _, _, rfl, .ty _, k.ty, kit_ty k.int, _, rfl, ?_⟩
    unfold isNumD at q
    cases c : isIntD d with
    | false =>
      rw [c] at q
      exact iteF q
    | true =>
      rw [c] at q
      refine iteT ?_
      refine ⟨_, rfl, _, _, _, _, _, rfl, .ty _, k.ty, kit_ty k.bool, _, rfl, ?_⟩
      exact q
def sp_q_is_number : Sp := fun vs H Q _ => ∃ n : Int, vs = [.int n] ∧ Q (.bl true) H
theorem okq_p_is_number (T : All K mg) : FnOk P w K mg base CX0 1 T.f_p_is_number T.fd_p_is_number ["thing"] sp_q_is_number := by
  refine T.d_p_is_number.fn.ok sc_p_is_number (fun vs H Q E h => ?_) (fun cdv A outer s H vs Q E hr h => ?_)
  · obtain ⟨n, rfl, _⟩ := h
    rfl
  · obtain ⟨n, rfl, q⟩ := h
    refine ⟨_, (pss_one (ps_ret (pe_and (pe_callB (isiK (K := K) rfl) (by rfl) T.b_isinstance (by decide +kernel) (pa_cons (pv 0) (pa_cons (pe_bltn (v := .ty "int") (by rfl) T.b_int (by decide +kernel) rfl) pa_nil))) (pe_one (pe_not (pe_callB (isiK (K := K) rfl) (by rfl) T.b_isinstance (by decide +kernel) (pa_cons (pv 0) (pa_cons (pe_bltn (v := .ty "bool") (by rfl) T.b_bool (by decide +kernel) rfl) pa_nil)))))))), ?_⟩
    refine ⟨_, rfl, _, _, _, _, _, rfl, .ty _, .base (.int n), kit_ty (show kitB "int" "int" = some true by decide +kernel), _, rfl, ?_⟩
    refine iteT ?_
    refine ⟨_, rfl, _, _, _, _, _, rfl, .ty _, .base (.int n), kit_ty (show kitB "int" "bool" = some false by decide +kernel), _, rfl, ?_⟩
    exact q

end
end KR
namespace KR
open PySem PySem.Spec PyProof.Rows L2
section
variable {P : Program} {w : World} {K : PySem.W.Frag} {mg : Str → Option Value} {base : Heap}
def sp_p_is_number_within : Sp := fun vs H Q _ => ∃ (i l m : Int), vs = [.int i, .int l, .int m] ∧ l ≤ i ∧ i ≤ m ∧ i.natAbs < 2 ^ 200 ∧ Q (.bl true) H
theorem ok_p_is_number_within (T : All K mg) : FnOk P w K mg base CX0 2 T.f_p_is_number_within T.fd_p_is_number_within ["thing", "least", "most"] sp_p_is_number_within := by
  refine T.d_p_is_number_within.fn.ok sc_p_is_number_within (fun vs H Q E h => ?_) (fun cdv A outer s H vs Q E hr h => ?_)
  · obtain ⟨i, l, m, rfl, _⟩ := h
    rfl
  · obtain ⟨i, l, m, rfl, h1, h2, z, q⟩ := h
    refine ⟨_, (pss_one (ps_ret (pe_and (pe_call (ok_p_is_number T) hr (by rfl) T.d_p_is_number.mg T.d_p_is_number.fn.kp T.d_p_is_number.b .nil pass0 (pa_cons (pv 0) pa_nil)) (pe_one (pe_chain op_le op_le (pv 1) (pv 0) (pv 2)))))), ?_⟩
    refine ⟨_, rfl, 0, 1, _, _, rfl, .int 0 i z, _, rfl, ?_⟩
    refine iteT ?_
    refine ⟨_, rfl, _, rfl, _, _, rfl, rfl, _, rfl, ?_⟩
    refine ite_bT (decide_eq_true h1) ?_
    refine ⟨_, rfl, _, _, rfl, rfl, ?_⟩
    show Q (.bl (decide (i ≤ m))) H
    rw [decide_eq_true h2]
    exact q

end
end KR
namespace KR
open PySem PySem.Spec PyProof.Rows L2
section
variable {P : Program} {w : World} {K : PySem.W.Frag} {mg : Str → Option Value} {base : Heap}
def sp_p_is_frac (K : PySem.W.Frag) : Sp := fun vs H Q _ => ∃ (p : Addr) (n : Nat) (v : V) (d : PyData), vs = [v] ∧ Dj K p H n v d ∧ Q (.bl (isFracD d)) H
theorem ok_p_is_frac (T : All K mg) : FnOk P w K mg base CX0 2 T.f_p_is_frac T.fd_p_is_frac ["thing"] (sp_p_is_frac K) := by
  refine T.d_p_is_frac.fn.ok sc_p_is_frac (fun vs H Q E h => ?_) (fun cdv A outer s H vs Q E hr h => ?_)
  · obtain ⟨p, n, v, d, rfl, _⟩ := h
    rfl
  · obtain ⟨p, n, v, d, rfl, hd, q⟩ := h
    refine ⟨_, (pss_cons (ps_if (PW.pt (pw_or (pt_not (pt_val (pe_callB (isiK (K := K) rfl) (by rfl) T.b_isinstance (by decide +kernel) (pa_cons (pv 0) (pa_cons (pe_bltn (v := .ty "tuple") (by rfl) T.b_tuple (by decide +kernel) rfl) pa_nil))))) (pw_or1 (pt_cmpR op_ne (pe_callB (lenQ (K := K) rfl) (by rfl) T.b_len PySem.boot_len (pa_cons (pv 0) pa_nil)) pe_int (nomark _))))) (pss_one (ps_ret pe_bl)) pss_nil)
      (pss_cons (ps_asg (pv 0) (pg_tupK (K := K) rfl rfl (pgs_cons (pg_name (i := 1) sc_p_is_frac.nd rfl (by first | exact Or.inl rfl | exact Or.inr rfl)) (pgs_cons (pg_name (i := 2) sc_p_is_frac.nd rfl (by first | exact Or.inl rfl | exact Or.inr rfl)) pgs_nil))))
      (pss_cons (ps_if (PW.pt (pw_or (pt_not (pt_val (pe_call (ok_p_is_number T) hr (by rfl) T.d_p_is_number.mg T.d_p_is_number.fn.kp T.d_p_is_number.b .nil pass0 (pa_cons (pv 1) pa_nil)))) (pw_or1 (pt_not (pt_val (pe_call (ok_p_is_number T) hr (by rfl) T.d_p_is_number.mg T.d_p_is_number.fn.kp T.d_p_is_number.b .nil pass0 (pa_cons (pv 2) pa_nil))))))) (pss_one (ps_ret pe_bl)) pss_nil)
      (pss_one (ps_ret (pe_and (pe_cmpR op_gt (pv 2) pe_int (nomark _)) (pe_one (pe_cmpR op_eq (pe_callBfun cr_gcd (by rfl) T.m_gcd (pa_cons (pv 1) (pa_cons (pv 2) pa_nil))) pe_int (nomark _))))))))), ?_⟩
    obtain ⟨t, k⟩ := hd.kinds
    refine ⟨_, rfl, _, _, _, _, _, rfl, .ty _, k.ty, kit_ty k.tup, _, rfl, ?_⟩
    cases hd with
    | tup h1 h2 h3 h4 =>
      rename_i n a xs ds
      refine iteF ?_
      refine ⟨_, rfl, a, xs, rfl, .inr h1, rfl, _, rfl, ?_⟩
      by_cases two : xs.length = 2
      · refine ite_nF (by omega) ?_
        match xs, ds, two, h2, h1, h3, h4 with
        | [x, y], [dx, dy], _, _, h1, h3, h4 =>
          have X := h4 0 x dx rfl rfl
          have Y := h4 1 y dy rfl rfl
          refine ⟨_, rfl, a, _, rfl, h1, rfl, _, _, rfl, _, _, rfl, rfl, ?_⟩
          refine ⟨_, rfl, p, n, x, dx, rfl, X, _, rfl, ?_⟩
          cases c1 : isNumD dx with
          | false =>
            rw [frac_no (.inl c1)] at q
            exact iteT (iteT q)
          | true =>
            refine iteF ?_
            refine ⟨_, rfl, p, n, y, dy, rfl, Y, _, rfl, ?_⟩
            cases c2 : isNumD dy with
            | false =>
              rw [frac_no (.inr c2)] at q
              exact iteT q
            | true =>
              refine iteF ?_
              obtain ⟨i, rfl, rfl, _⟩ := dj_num X c1
              obtain ⟨j, rfl, rfl, _⟩ := dj_num Y c2
              refine ⟨_, rfl, _, _, rfl, rfl, _, rfl, ?_⟩
              have q' : Q (.bl (decide (0 < j) && decide (Nat.gcd i.natAbs j.natAbs = 1))) H := q
              by_cases pos : 0 < j
              · rw [decide_eq_true pos] at q'
                refine ite_bT (decide_eq_true pos) ?_
                refine ⟨_, rfl, _, rfl, _, _, rfl, rfl, ?_⟩
                have e : decide (V.int ((Nat.gcd i.natAbs j.natAbs : Nat) : Int) = V.int 1) = decide (Nat.gcd i.natAbs j.natAbs = 1) := by
                  by_cases z : Nat.gcd i.natAbs j.natAbs = 1
                  · rw [decide_eq_true z, z] <;> rfl
                  · rw [decide_eq_false z, decide_eq_false fun y => z (by have := V.int.inj y; omega)]
                rw [e]
                exact q'
              · rw [decide_eq_false pos] at q'
                exact ite_bF (decide_eq_false pos) q'
      · refine ite_nT (by omega) ?_
        rw [frac_len (by omega)] at q
        exact q
    | non => exact iteT q
    | bl => exact iteT q
    | int => exact iteT q
    | str => exact iteT q
    | lst => exact iteT q
def sp_q_is_frac (K : PySem.W.Frag) : Sp := fun vs H Q _ => ∃ (x : Addr) (a b : Int), vs = [.ref x] ∧ SqT K H x [.int a, .int b] ∧ IsLow a b ∧ Q (.bl true) H
theorem okq_p_is_frac (T : All K mg) : FnOk P w K mg base CX0 2 T.f_p_is_frac T.fd_p_is_frac ["thing"] (sp_q_is_frac K) := by
  refine T.d_p_is_frac.fn.ok sc_p_is_frac (fun vs H Q E h => ?_) (fun cdv A outer s H vs Q E hr h => ?_)
  · obtain ⟨x, a, b, rfl, _⟩ := h
    rfl
  · obtain ⟨x, a, b, rfl, hx, lo, q⟩ := h
    refine ⟨_, (pss_cons (ps_if (PW.pt (pw_or (pt_not (pt_val (pe_callB (isiK (K := K) rfl) (by rfl) T.b_isinstance (by decide +kernel) (pa_cons (pv 0) (pa_cons (pe_bltn (v := .ty "tuple") (by rfl) T.b_tuple (by decide +kernel) rfl) pa_nil))))) (pw_or1 (pt_cmpR op_ne (pe_callB (lenQ (K := K) rfl) (by rfl) T.b_len PySem.boot_len (pa_cons (pv 0) pa_nil)) pe_int (nomark _))))) (pss_one (ps_ret pe_bl)) pss_nil)
      (pss_cons (ps_asg (pv 0) (pg_tupK (K := K) rfl rfl (pgs_cons (pg_name (i := 1) sc_p_is_frac.nd rfl (by first | exact Or.inl rfl | exact Or.inr rfl)) (pgs_cons (pg_name (i := 2) sc_p_is_frac.nd rfl (by first | exact Or.inl rfl | exact Or.inr rfl)) pgs_nil))))
      (pss_cons (ps_if (PW.pt (pw_or (pt_not (pt_val (pe_call (okq_p_is_number T) hr (by rfl) T.d_p_is_number.mg T.d_p_is_number.fn.kp T.d_p_is_number.b .nil pass0 (pa_cons (pv 1) pa_nil)))) (pw_or1 (pt_not (pt_val (pe_call (okq_p_is_number T) hr (by rfl) T.d_p_is_number.mg T.d_p_is_number.fn.kp T.d_p_is_number.b .nil pass0 (pa_cons (pv 2) pa_nil))))))) (pss_one (ps_ret pe_bl)) pss_nil)
      (pss_one (ps_ret (pe_and (pe_cmpR op_gt (pv 2) pe_int (nomark _)) (pe_one (pe_cmpR op_eq (pe_callBfun cr_gcd (by rfl) T.m_gcd (pa_cons (pv 1) (pa_cons (pv 2) pa_nil))) pe_int (nomark _))))))))), ?_⟩
    refine ⟨_, rfl, _, _, _, _, _, rfl, .ty _, sqT_ty hx, kit_ty (show kitB "tuple" "tuple" = some true by decide +kernel), _, rfl, ?_⟩
    refine iteF ?_
    refine ⟨_, rfl, x, _, rfl, .inr hx, rfl, _, rfl, ?_⟩
    refine ite_nF rfl ?_
    refine ⟨_, rfl, x, _, rfl, hx, rfl, _, _, rfl, _, _, rfl, rfl, ?_⟩
    refine ⟨_, rfl, a, rfl, _, rfl, iteF ?_⟩
    refine ⟨_, rfl, b, rfl, _, rfl, iteF ?_⟩
    refine ⟨_, rfl, _, _, rfl, rfl, _, rfl, ?_⟩
    refine ite_bT (decide_eq_true lo.pos) ?_
    refine ⟨_, rfl, _, rfl, _, _, rfl, rfl, ?_⟩
    have e : decide (V.int ((Nat.gcd a.natAbs b.natAbs : Nat) : Int) = V.int 1) = true := by
      rw [lo.cop] <;> rfl
    rw [e]
    exact q

end
end KR
namespace KR
open PySem PySem.Spec PyProof.Rows L2
section
variable {P : Program} {w : World} {K : PySem.W.Frag} {mg : Str → Option Value} {base : Heap}
def sp_p_is_name (P : Addr) : Sp := fun vs H Q _ => ∃ x : Str, vs = [.str x] ∧ Nm x ∧ GxR.TabG H P ∧ ∀ H', Sm H H' → Q (.bl true) H'
theorem le_sign {a b : Nat} (h : a ≤ b) : (!decide ([b] < [a])) = true := by
  rw [Bool.not_eq_true', decide_eq_false_iff_not, List.cons_lt_cons_iff]
  rintro (z | ⟨_, z⟩)
  · omega
  · exact absurd z (by simp)
theorem ok_p_is_name (T : All K mg) (B : Tabs T base) : FnOk P w K mg base CX0 1 T.f_p_is_name T.fd_p_is_name ["thing"] (sp_p_is_name T.P_p_is_name) := by
  refine T.k_p_is_name.ok sc_p_is_name (fun vs H Q E h => ?_) (fun cdv A outer s H vs Q E hc hr h => ?_)
  · obtain ⟨x, rfl, _⟩ := h
    rfl
  · obtain ⟨x, rfl, nm, hT, q⟩ := h
    refine ⟨_, (pss_cons (ps_if (PW.pt (pw_or (pt_not (pt_val (pe_callB (isiK (K := K) rfl) (by rfl) T.b_isinstance (by decide +kernel) (pa_cons (pv 0) (pa_cons (pe_bltn (v := .ty "str") (by rfl) T.b_str (by decide +kernel) rfl) pa_nil))))) (pw_or1 (pt_not (pt_chain op_le op_le pe_int (pe_callB call_len_str (by rfl) T.b_len PySem.boot_len (pa_cons (pv 0) pa_nil)) (pe_glob (v := .int 8) rfl T.c_MOST_LETTERS ⟨_, rfl⟩)))))) (pss_one (ps_ret pe_bl)) pss_nil)
      (pss_one (ps_ret (pe_allG hr (by rfl) T.b_all (by decide +kernel) B.t_p_is_name hc ⟨rfl, rfl, by decide +kernel, by decide +kernel, rfl, rfl⟩ (pi_str (pv 0)) (fun _ _ _ _ _ _ => (pe_chain op_le_str op_le_str pe_str (pv 0) pe_str)) (by intro _; rfl))))), ?_⟩
    refine ⟨_, rfl, _, _, _, _, _, rfl, .ty _, .base (.str x), kit_ty (show kitB "str" "str" = some true by decide +kernel), _, rfl, ?_⟩
    refine iteF ?_
    refine ⟨_, rfl, _, rfl, small (by have := nm.hi; omega), _, _, rfl, rfl, _, rfl, ?_⟩
    refine ite_bT (decide_eq_true (by have := nm.lo; omega)) ?_
    refine ⟨_, _, rfl, rfl, _, rfl, ?_⟩
    rw [decide_eq_true (show ((x.length : Nat) : Int) ≤ 8 by have := nm.hi; omega)]
    refine iteF ?_
    refine ⟨_, rfl, x, rfl, hT, x.length, fun i H' => Sm H H' ∧ i ≤ x.length, fun H2 tb => ⟨Sm.tabbed tb hT, Nat.zero_le _⟩, fun i H2 ⟨sm, le⟩ => ?_⟩
    by_cases c : x.cps.size ≤ i
    · exact .inl ⟨c, q H2 sm⟩
    · refine .inr ⟨by show i < x.cps.size; omega, by show i < x.cps.size; omega, fun y H3 ⟨e3, z, hz, ey⟩ => ?_⟩
      subst e3 ey
      have az := nm.az z (by
        rw [← Array.getElem?_toList] at hz
        exact List.mem_of_getElem? hz)
      refine ⟨_, rfl, _, _, rfl, rfl, _, rfl, ?_⟩
      refine ite_bT (le_sign az.1) ?_
      refine ⟨_, _, rfl, rfl, _, rfl, ?_⟩
      refine ite_bT (le_sign az.2) ⟨sm, by show i + 1 ≤ x.cps.size; omega⟩

end
end KR
namespace KR
open PySem PySem.Spec PyProof.Rows L2
section
variable {P : Program} {w : World} {K : PySem.W.Frag} {mg : Str → Option Value} {base : Heap}
def sp_p_are_unlike (K : PySem.W.Frag) : Sp := fun vs H Q _ => ∃ (l : Addr) (xs : List Str), vs = [.ref l] ∧ SqL K H l (xs.map V.str) ∧ xs.length < 4000 ∧ xs.Nodup ∧ Q (.bl true) H
theorem ok_p_are_unlike (T : All K mg) : FnOk P w K mg base CX0 1 T.f_p_are_unlike T.fd_p_are_unlike ["names"] (sp_p_are_unlike K) := by
  refine T.d_p_are_unlike.fn.ok sc_p_are_unlike (fun vs H Q E h => ?_) (fun cdv A outer s H vs Q E hr h => ?_)
  · obtain ⟨l, xs, rfl, _⟩ := h
    rfl
  · obtain ⟨l, xs, rfl, hl, few, nd, q⟩ := h
    refine ⟨_, (pss_one (ps_ret (pe_cmpR op_eq (pe_lenSetS (K := K) rfl (by rfl) T.b_len (by rfl) T.b_set (pv 0)) (pe_callB (lenQ (K := K) rfl) (by rfl) T.b_len PySem.boot_len (pa_cons (pv 0) pa_nil)) (nomark _)))), ?_⟩
    refine ⟨_, rfl, l, xs, rfl, hl, few, _, rfl, l, _, rfl, .inl hl, ?_⟩
    refine ⟨rfl, ?_⟩
    rw [dist_len.mpr nd, List.length_map, decide_eq_true rfl]
    exact q

end
end KR
namespace KR
open PySem PySem.Spec PyProof.Rows L2
section
variable {P : Program} {w : World} {K : PySem.W.Frag} {mg : Str → Option Value} {base : Heap}
def sp_p__are_name_and_room (P : Addr) : Sp := fun vs H Q _ => ∃ (x : Str) (r : Int), vs = [.str x, .int r] ∧ Nm x ∧ 1 ≤ r ∧ r ≤ 1000000 ∧ GxR.TabG H P ∧ ∀ H', Sm H H' → Q (.bl true) H'
theorem ok_p__are_name_and_room (T : All K mg) (B : Tabs T base) : FnOk P w K mg base CX0 3 T.f_p__are_name_and_room T.fd_p__are_name_and_room ["name", "room"] (sp_p__are_name_and_room T.P_p_is_name) := by
  refine T.d_p__are_name_and_room.fn.ok sc_p__are_name_and_room (fun vs H Q E h => ?_) (fun cdv A outer s H vs Q E hr h => ?_)
  · obtain ⟨x, r, rfl, _⟩ := h
    rfl
  · obtain ⟨x, r, rfl, nm, r0, r1, hT, q⟩ := h
    refine ⟨_, (pss_one (ps_ret (pe_and (pe_call (ok_p_is_name T B) (hr.mono (by decide)) (by rfl) T.d_p_is_name.mg T.d_p_is_name.fn.kp T.d_p_is_name.b .nil pass0 (pa_cons (pv 0) pa_nil)) (pe_one (pe_call (ok_p_is_number_within T) hr (by rfl) T.d_p_is_number_within.mg T.d_p_is_number_within.fn.kp T.d_p_is_number_within.b .nil pass0 (pa_cons (pv 1) (pa_cons pe_int (pa_cons (pe_glob (v := .int 1000000) rfl T.c_MOST_ROOM ⟨_, rfl⟩) pa_nil)))))))), ?_⟩
    refine ⟨_, rfl, x, rfl, nm, hT, fun H1 s1 => ⟨_, rfl, iteT ?_⟩⟩
    exact ⟨_, rfl, _, _, _, rfl, r0, r1, by omega, q H1 s1⟩

end
end KR
namespace KR
open PySem PySem.Spec PyProof.Rows L2
section
variable {P : Program} {w : World} {K : PySem.W.Frag} {mg : Str → Option Value} {base : Heap}
def sp_p__is_mark (K : PySem.W.Frag) : Sp := fun vs H Q _ => ∃ (m : Addr) (t b : Int), vs = [.ref m] ∧ SqT K H m [.int t, .int b] ∧ 0 < t ∧ t < b ∧ b ≤ 60 ∧ Nat.gcd t.natAbs b.natAbs = 1 ∧ Q (.bl true) H
theorem ok_p__is_mark (T : All K mg) : FnOk P w K mg base CX0 3 T.f_p__is_mark T.fd_p__is_mark ["thing"] (sp_p__is_mark K) := by
  refine T.d_p__is_mark.fn.ok sc_p__is_mark (fun vs H Q E h => ?_) (fun cdv A outer s H vs Q E hr h => ?_)
  · obtain ⟨m, t, b, rfl, _⟩ := h
    rfl
  · obtain ⟨m, t, b, rfl, hm, t0, tb, b1, cop, q⟩ := h
    refine ⟨_, (pss_one (ps_ret (pe_and (pe_call (ok_p_is_frac T) hr (by rfl) T.d_p_is_frac.mg T.d_p_is_frac.fn.kp T.d_p_is_frac.b .nil pass0 (pa_cons (pv 0) pa_nil)) (pe_one (pe_chain3 op_lt op_lt op_le pe_int (pe_ix (ixT (K := K) rfl) (pv 0) pe_int (fun _ _ => rfl)) (pe_ix (ixT (K := K) rfl) (pv 0) pe_int (fun _ _ => rfl)) (pe_glob (v := .int 60) rfl T.c_MOST_MARK_BOTTOM ⟨_, rfl⟩)))))), ?_⟩
    have D : Dj K 0 H 2 (.ref m) (.tuple [.int t, .int b]) := .tup hm rfl (by show 2 ≤ 100000; decide) fun i u c hu hc => match i, hu, hc with
      | 0, hu, hc => by cases hu; cases hc; exact .int 0 _ (by omega)
      | 1, hu, hc => by cases hu; cases hc; exact .int 0 _ (by omega)
      | i + 2, hu, _ => by simp at hu
    have e : isFracD (.tuple [.int t, .int b]) = true := by
      show (decide (0 < b) && decide (Nat.gcd t.natAbs b.natAbs = 1)) = true
      rw [decide_eq_true (show 0 < b by omega), decide_eq_true cop] <;> rfl
    refine ⟨_, rfl, 0, _, _, _, rfl, D, _, rfl, ?_⟩
    rw [e]
    refine iteT ?_
    refine ⟨_, rfl, m, _, 0, _, rfl, rfl, hm, at0, _, _, rfl, rfl, _, rfl, ?_⟩
    refine ite_bT (decide_eq_true t0) ?_
    refine ⟨_, rfl, m, _, 1, _, rfl, rfl, hm, at1, _, _, rfl, rfl, _, rfl, ?_⟩
    refine ite_bT (decide_eq_true tb) ?_
    refine ⟨_, _, rfl, rfl, ?_⟩
    show Q (.bl (decide (b ≤ 60))) H
    rw [decide_eq_true b1]
    exact q

end
end KR
namespace KR
open PySem PySem.Spec PyProof.Rows L2
section
variable {P : Program} {w : World} {K : PySem.W.Frag} {mg : Str → Option Value} {base : Heap}
def sp_p__is_drip (K : PySem.W.Frag) : Sp := fun vs H Q _ => ∃ (m : Addr) (t b : Int), vs = [.ref m] ∧ SqT K H m [.int t, .int b] ∧ 0 ≤ t ∧ t < b ∧ b ≤ 12 ∧ Nat.gcd t.natAbs b.natAbs = 1 ∧ Q (.bl true) H
theorem ok_p__is_drip (T : All K mg) : FnOk P w K mg base CX0 3 T.f_p__is_drip T.fd_p__is_drip ["thing"] (sp_p__is_drip K) := by
  refine T.d_p__is_drip.fn.ok sc_p__is_drip (fun vs H Q E h => ?_) (fun cdv A outer s H vs Q E hr h => ?_)
  · obtain ⟨m, t, b, rfl, _⟩ := h
    rfl
  · obtain ⟨m, t, b, rfl, hm, t0, tb, b1, cop, q⟩ := h
    refine ⟨_, (pss_one (ps_ret (pe_and (pe_call (ok_p_is_frac T) hr (by rfl) T.d_p_is_frac.mg T.d_p_is_frac.fn.kp T.d_p_is_frac.b .nil pass0 (pa_cons (pv 0) pa_nil)) (pe_one (pe_chain3 op_le op_lt op_le pe_int (pe_ix (ixT (K := K) rfl) (pv 0) pe_int (fun _ _ => rfl)) (pe_ix (ixT (K := K) rfl) (pv 0) pe_int (fun _ _ => rfl)) (pe_glob (v := .int 12) rfl T.c_MOST_DRIP_BOTTOM ⟨_, rfl⟩)))))), ?_⟩
    have D : Dj K 0 H 2 (.ref m) (.tuple [.int t, .int b]) := .tup hm rfl (by show 2 ≤ 100000; decide) fun i u c hu hc => match i, hu, hc with
      | 0, hu, hc => by cases hu; cases hc; exact .int 0 _ (by omega)
      | 1, hu, hc => by cases hu; cases hc; exact .int 0 _ (by omega)
      | i + 2, hu, _ => by simp at hu
    have e : isFracD (.tuple [.int t, .int b]) = true := by
      show (decide (0 < b) && decide (Nat.gcd t.natAbs b.natAbs = 1)) = true
      rw [decide_eq_true (show 0 < b by omega), decide_eq_true cop] <;> rfl
    refine ⟨_, rfl, 0, _, _, _, rfl, D, _, rfl, ?_⟩
    rw [e]
    refine iteT ?_
    refine ⟨_, rfl, m, _, 0, _, rfl, rfl, hm, at0, _, _, rfl, rfl, _, rfl, ?_⟩
    refine ite_bT (decide_eq_true t0) ?_
    refine ⟨_, rfl, m, _, 1, _, rfl, rfl, hm, at1, _, _, rfl, rfl, _, rfl, ?_⟩
    refine ite_bT (decide_eq_true tb) ?_
    refine ⟨_, _, rfl, rfl, ?_⟩
    show Q (.bl (decide (b ≤ 12))) H
    rw [decide_eq_true b1]
    exact q

end
end KR
namespace KR
open PySem PySem.Spec PyProof.Rows L2
section
variable {P : Program} {w : World} {K : PySem.W.Frag} {mg : Str → Option Value} {base : Heap}
def sp_p_is_kettle (K : PySem.W.Frag) (P : Addr) : Sp := fun vs H Q _ => (∃ (v : V) (x : Str) (d : PyData), vs = [v] ∧ KetAt K H v x d ∧ GxR.TabG H P ∧ ∀ H', Sm H H' → Q (.bl true) H') ∨ (∃ (a : Addr) (xs : List V), vs = [.ref a] ∧ SqT K H a xs ∧ xs.length ≠ 4 ∧ xs.length ≤ 100000 ∧ Q (.bl false) H)
theorem ok_p_is_kettle (T : All K mg) (B : Tabs T base) : FnOk P w K mg base CX0 4 T.f_p_is_kettle T.fd_p_is_kettle ["thing"] (sp_p_is_kettle K T.P_p_is_name) := by
  refine T.d_p_is_kettle.fn.ok sc_p_is_kettle (fun vs H Q E h => ?_) (fun cdv A outer s H vs Q E hr h => ?_)
  · rcases h with ⟨v, x, d, rfl, _⟩ | ⟨a, xs, rfl, _⟩ <;> rfl
  · refine ⟨_, (pss_cons (ps_if (PW.pt (pw_or (pt_not (pt_val (pe_callB (isiK (K := K) rfl) (by rfl) T.b_isinstance (by decide +kernel) (pa_cons (pv 0) (pa_cons (pe_bltn (v := .ty "tuple") (by rfl) T.b_tuple (by decide +kernel) rfl) pa_nil))))) (pw_or1 (pt_cmpR op_ne (pe_callB (lenQ (K := K) rfl) (by rfl) T.b_len PySem.boot_len (pa_cons (pv 0) pa_nil)) pe_int (nomark _))))) (pss_one (ps_ret pe_bl)) pss_nil)
      (pss_cons (ps_asg (pv 0) (pg_tupK (K := K) rfl rfl (pgs_cons (pg_name (i := 1) sc_p_is_kettle.nd rfl (by first | exact Or.inl rfl | exact Or.inr rfl)) (pgs_cons (pg_name (i := 2) sc_p_is_kettle.nd rfl (by first | exact Or.inl rfl | exact Or.inr rfl)) (pgs_cons (pg_name (i := 3) sc_p_is_kettle.nd rfl (by first | exact Or.inl rfl | exact Or.inr rfl)) (pgs_cons (pg_name (i := 4) sc_p_is_kettle.nd rfl (by first | exact Or.inl rfl | exact Or.inr rfl)) pgs_nil))))))
      (pss_one (ps_ret (pe_and (pe_call (ok_p__are_name_and_room T B) hr (by rfl) T.d_p__are_name_and_room.mg T.d_p__are_name_and_room.fn.kp T.d_p__are_name_and_room.b .nil pass0 (pa_cons (pv 1) (pa_cons (pv 2) pa_nil))) (pe_and (pe_call (ok_p_is_number_within T) (hr.mono (by decide)) (by rfl) T.d_p_is_number_within.mg T.d_p_is_number_within.fn.kp T.d_p_is_number_within.b .nil pass0 (pa_cons (pv 3) (pa_cons pe_int (pa_cons (pe_glob (v := .int 10000) rfl T.c_MOST_FIRE ⟨_, rfl⟩) pa_nil)))) (pe_one (pe_call (ok_p__is_mark T) hr (by rfl) T.d_p__is_mark.mg T.d_p__is_mark.fn.kp T.d_p__is_mark.b .nil pass0 (pa_cons (pv 4) pa_nil))))))))), ?_⟩
    rcases h with ⟨v, x, d, rfl, ⟨a, m, r, f, t, b, rfl, h1, h2, k, rfl⟩, hT, q⟩ | ⟨a, xs, rfl, h1, n4, le, q⟩
    case' inr =>
      refine ⟨_, rfl, _, _, _, _, _, rfl, .ty _, sqT_ty h1, kit_ty (show kitB "tuple" "tuple" = some true by decide +kernel), _, rfl, ?_⟩
      refine iteF ?_
      refine ⟨_, rfl, a, _, rfl, .inr h1, rfl, _, rfl, ?_⟩
      exact ite_nT (by omega) q
    refine ⟨_, rfl, _, _, _, _, _, rfl, .ty _, sqT_ty h1, kit_ty (show kitB "tuple" "tuple" = some true by decide +kernel), _, rfl, ?_⟩
    refine iteF ?_
    refine ⟨_, rfl, a, _, rfl, .inr h1, rfl, _, rfl, ?_⟩
    refine ite_nF rfl ?_
    refine ⟨_, rfl, a, _, rfl, h1, rfl, _, _, rfl, _, _, rfl, _, _, rfl, _, _, rfl, rfl, ?_⟩
    refine ⟨_, rfl, _, rfl, x, r, rfl, k.nm, k.r0, k.r1, hT, fun H1 s1 => ⟨_, rfl, iteT ?_⟩⟩
    refine ⟨_, rfl, _, _, _, rfl, k.f0, k.f1, by have := k.f0; have := k.f1; omega, _, rfl, iteT ?_⟩
    exact ⟨_, rfl, m, t, b, rfl, s1.tup h2, k.t0, k.tb, k.b1, k.cop, q H1 s1⟩

end
end KR
namespace KR
open PySem PySem.Spec PyProof.Rows L2
section
variable {P : Program} {w : World} {K : PySem.W.Frag} {mg : Str → Option Value} {base : Heap}
def sp_p_is_mould (K : PySem.W.Frag) (P : Addr) : Sp := fun vs H Q _ => (∃ (v : V) (x : Str) (d : PyData), vs = [v] ∧ MouAt K H v x d ∧ GxR.TabG H P ∧ ∀ H', Sm H H' → Q (.bl true) H') ∨ (∃ (a : Addr) (xs : List V), vs = [.ref a] ∧ SqT K H a xs ∧ xs.length ≠ 3 ∧ xs.length ≤ 100000 ∧ Q (.bl false) H)
theorem ok_p_is_mould (T : All K mg) (B : Tabs T base) : FnOk P w K mg base CX0 4 T.f_p_is_mould T.fd_p_is_mould ["thing"] (sp_p_is_mould K T.P_p_is_name) := by
  refine T.d_p_is_mould.fn.ok sc_p_is_mould (fun vs H Q E h => ?_) (fun cdv A outer s H vs Q E hr h => ?_)
  · rcases h with ⟨v, x, d, rfl, _⟩ | ⟨a, xs, rfl, _⟩ <;> rfl
  · refine ⟨_, (pss_cons (ps_if (PW.pt (pw_or (pt_not (pt_val (pe_callB (isiK (K := K) rfl) (by rfl) T.b_isinstance (by decide +kernel) (pa_cons (pv 0) (pa_cons (pe_bltn (v := .ty "tuple") (by rfl) T.b_tuple (by decide +kernel) rfl) pa_nil))))) (pw_or1 (pt_cmpR op_ne (pe_callB (lenQ (K := K) rfl) (by rfl) T.b_len PySem.boot_len (pa_cons (pv 0) pa_nil)) pe_int (nomark _))))) (pss_one (ps_ret pe_bl)) pss_nil)
      (pss_cons (ps_asg (pv 0) (pg_tupK (K := K) rfl rfl (pgs_cons (pg_name (i := 1) sc_p_is_mould.nd rfl (by first | exact Or.inl rfl | exact Or.inr rfl)) (pgs_cons (pg_name (i := 2) sc_p_is_mould.nd rfl (by first | exact Or.inl rfl | exact Or.inr rfl)) (pgs_cons (pg_name (i := 3) sc_p_is_mould.nd rfl (by first | exact Or.inl rfl | exact Or.inr rfl)) pgs_nil)))))
      (pss_one (ps_ret (pe_and (pe_call (ok_p__are_name_and_room T B) hr (by rfl) T.d_p__are_name_and_room.mg T.d_p__are_name_and_room.fn.kp T.d_p__are_name_and_room.b .nil pass0 (pa_cons (pv 1) (pa_cons (pv 2) pa_nil))) (pe_one (pe_call (ok_p__is_drip T) hr (by rfl) T.d_p__is_drip.mg T.d_p__is_drip.fn.kp T.d_p__is_drip.b .nil pass0 (pa_cons (pv 3) pa_nil)))))))), ?_⟩
    rcases h with ⟨v, x, d, rfl, ⟨a, m, r, t, b, rfl, h1, h2, k, rfl⟩, hT, q⟩ | ⟨a, xs, rfl, h1, n4, le, q⟩
    case' inr =>
      refine ⟨_, rfl, _, _, _, _, _, rfl, .ty _, sqT_ty h1, kit_ty (show kitB "tuple" "tuple" = some true by decide +kernel), _, rfl, ?_⟩
      refine iteF ?_
      refine ⟨_, rfl, a, _, rfl, .inr h1, rfl, _, rfl, ?_⟩
      exact ite_nT (by omega) q
    refine ⟨_, rfl, _, _, _, _, _, rfl, .ty _, sqT_ty h1, kit_ty (show kitB "tuple" "tuple" = some true by decide +kernel), _, rfl, ?_⟩
    refine iteF ?_
    refine ⟨_, rfl, a, _, rfl, .inr h1, rfl, _, rfl, ?_⟩
    refine ite_nF rfl ?_
    refine ⟨_, rfl, a, _, rfl, h1, rfl, _, _, rfl, _, _, rfl, _, _, rfl, rfl, ?_⟩
    refine ⟨_, rfl, _, rfl, x, r, rfl, k.nm, k.r0, k.r1, hT, fun H1 s1 => ⟨_, rfl, iteT ?_⟩⟩
    exact ⟨_, rfl, m, t, b, rfl, s1.tup h2, k.t0, k.tb, k.b1, k.cop, q H1 s1⟩

end
end KR
namespace KR
open PySem PySem.Spec PyProof.Rows L2
section
variable {P : Program} {w : World} {K : PySem.W.Frag} {mg : Str → Option Value} {base : Heap}
def sp_p__can_be_kettles (K : PySem.W.Frag) (Ps : List Addr) : Sp := fun vs H Q _ => ∃ (a : Addr) (xs : List V) (ns : List Str) (ds : List PyData), vs = [.ref a] ∧ SqT K H a xs ∧ AllAt (KetAt K H) xs ns ds ∧ 1 ≤ xs.length ∧ xs.length ≤ 8 ∧ ns.Nodup ∧ Tbs Ps H ∧ ∀ H', Sm H H' → Q (.bl true) H'
theorem ok_p__can_be_kettles (T : All K mg) (B : Tabs T base) : FnOk P w K mg base CX0 6 T.f_p__can_be_kettles T.fd_p__can_be_kettles ["things"] (sp_p__can_be_kettles K T.Ps) := by
  refine T.k_p__can_be_kettles.ok sc_p__can_be_kettles (fun vs H Q E h => ?_) (fun cdv A outer s H vs Q E hc hr h => ?_)
  · obtain ⟨a, xs, ns, ds, rfl, _⟩ := h
    rfl
  · obtain ⟨a, xs, ns, ds, rfl, ha, hA, lo, hi, nd, hT, q⟩ := h
    have t1 : GxR.TabG H T.P_p__can_be_kettles := hT _ (by simp [All.Ps])
    have t2 : GxR.TabG H T.P_p_is_name := hT _ (by simp [All.Ps])
    refine ⟨_, (pss_cons (ps_if (PW.pt (pw_or (pt_not (pt_chain op_le op_le pe_int (pe_callB (lenQ (K := K) rfl) (by rfl) T.b_len PySem.boot_len (pa_cons (pv 0) pa_nil)) (pe_glob (v := .int 8) rfl T.c_MOST_KETTLES ⟨_, rfl⟩))) (pw_or1 (pt_not (pt_val (pe_allG hr (by rfl) T.b_all (by decide +kernel) B.t_p__can_be_kettles hc ⟨rfl, rfl, by decide +kernel, by decide +kernel, rfl, rfl⟩ (pi_tupK (K := K) rfl (pv 0)) (fun _ _ _ _ _ _ => (pe_call (ok_p_is_kettle T B) (room_gen hr) (by rfl) T.d_p_is_kettle.mg T.d_p_is_kettle.fn.kp T.d_p_is_kettle.b .nil pass0 (pa_cons (pv 0) pa_nil))) (by intro _; rfl))))))) (pss_one (ps_ret pe_bl)) pss_nil)
      (pss_one (ps_ret (pe_call (ok_p_are_unlike T) (hr.mono (by decide)) (by rfl) T.d_p_are_unlike.mg T.d_p_are_unlike.fn.kp T.d_p_are_unlike.b .nil pass0 (pa_cons (pe_lc (own := [("thing", 1)]) (g := gName 1) (tt := tYes) (by rfl) sc_p__can_be_kettles.nd (pi_tupK (K := K) rfl (pv 0)) (blkOk_by (own := [("thing", 1)]) (N := ["things", "thing"]) (sc := defScope s_p__can_be_kettles) (by decide +kernel)) (fun _ _ _ _ _ => (pg_name (i := 1) sc_p__can_be_kettles.nd rfl (by first | exact Or.inl rfl | exact Or.inr rfl))) (fun _ _ _ _ _ => pts_nil) (fun _ _ _ _ _ => (pe_ix (ixT (K := K) rfl) (pv 1) pe_int (fun _ _ => rfl)))) pa_nil))))), ?_⟩
    refine ⟨_, rfl, a, xs, rfl, .inr ha, _, _, rfl, rfl, _, rfl, ?_⟩
    refine ite_bT (decide_eq_true (by omega)) ?_
    refine ⟨_, _, rfl, rfl, _, rfl, ?_⟩
    rw [decide_eq_true (show ((xs.length : Nat) : Int) ≤ 8 by omega)]
    refine iteF ?_
    refine ⟨_, rfl, a, rfl, ⟨xs, ha⟩, t1, xs.length, fun i H' => Sm H H' ∧ i ≤ xs.length, fun H2 tb => ⟨Sm.tabbed tb t1, Nat.zero_le _⟩, fun i H2 ⟨sm, le⟩ => ?_⟩
    by_cases c : i = xs.length
    · refine .inl ⟨⟨xs, sm.tup ha, by omega⟩, _, rfl, iteF ?_⟩
      refine ⟨_, rfl, a, rfl, ⟨xs, sm.tup ha⟩, fun D hD => ?_⟩
      refine lc_tup (K := K) (a := a) (xs := xs) (fun j H3 => Same H2 H3 ∧ H3 D = some (.lst ((ns.take j).map V.str))) ⟨same_new hD, upd_same⟩ (fun j H3 _ z => Same.tup z.1 (sm.tup ha)) (fun j y H3 hy z => ?_) (fun H3 z => ?_)
      · obtain ⟨s3, l3⟩ := z
        have jl := (List.getElem?_eq_some_iff.mp hy).1
        obtain ⟨x, d, hx, _, ⟨b, m, r, f, t, b2, rfl, h1, _⟩⟩ := hA.get hy
        refine ⟨rfl, yesT ?_⟩
        refine ⟨_, rfl, b, _, 0, _, rfl, rfl, Same.tup s3 (sm.tup h1), at0, ?_⟩
        refine ⟨_, l3, by rw [List.length_map]; exact small' (by rw [List.length_take]; omega), Same.put s3 hD, ?_⟩
        rw [upd_same, List.take_add_one, hx, List.map_append] <;> rfl
      · obtain ⟨s3, l3⟩ := z
        rw [hA.ln, List.take_length] at l3
        exact ⟨D, ns, rfl, SqL.of l3, by have := hA.ln; omega, nd, q H3 (sm.trans (.of s3))⟩
    · obtain ⟨x, hx⟩ : ∃ x, xs[i]? = some x := ⟨_, List.getElem?_eq_getElem (by omega)⟩
      refine .inr ⟨⟨xs, x, sm.tup ha, hx⟩, by omega, fun y H3 ⟨e3, hy⟩ => ?_⟩
      subst e3
      obtain rfl := Option.some.inj ((hy xs (sm.tup ha)).symm.trans hx)
      obtain ⟨x, d, _, _, k⟩ := hA.get hx
      exact ⟨_, rfl, .inl ⟨y, x, d, rfl, k.tk (.sm sm), sm.tab _ t2, fun H4 s4 => ⟨true, rfl, sm.trans s4, by omega⟩⟩⟩

end
end KR
namespace KR
open PySem PySem.Spec PyProof.Rows L2
section
variable {P : Program} {w : World} {K : PySem.W.Frag} {mg : Str → Option Value} {base : Heap}
def sp_p__can_be_moulds (K : PySem.W.Frag) (Ps : List Addr) : Sp := fun vs H Q _ => ∃ (a k : Addr) (xs ys : List V) (ns ms : List Str) (ds es : List PyData), vs = [.ref a, .ref k] ∧ SqT K H a xs ∧ AllAt (MouAt K H) xs ns ds ∧ SqT K H k ys ∧ AllAt (KetAt K H) ys ms es ∧ xs.length ≤ 40 ∧ 1 ≤ ys.length ∧ ys.length ≤ 8 ∧ (ms ++ ns).Nodup ∧ Tbs Ps H ∧ ∀ H', Sm H H' → Q (.bl true) H'
theorem ok_p__can_be_moulds (T : All K mg) (B : Tabs T base) : FnOk P w K mg base CX0 6 T.f_p__can_be_moulds T.fd_p__can_be_moulds ["things", "kettles"] (sp_p__can_be_moulds K T.Ps) := by
  refine T.k_p__can_be_moulds.ok sc_p__can_be_moulds (fun vs H Q E h => ?_) (fun cdv A outer s H vs Q E hc hr h => ?_)
  · obtain ⟨a, k, xs, ys, ns, ms, ds, es, rfl, _⟩ := h
    rfl
  · obtain ⟨a, k, xs, ys, ns, ms, ds, es, rfl, ha, hA, hk, hB, most, lo, hi, nd, hT, q⟩ := h
    have t1 : GxR.TabG H T.P_p__can_be_moulds := hT _ (by simp [All.Ps])
    have t2 : GxR.TabG H T.P_p_is_name := hT _ (by simp [All.Ps])
    refine ⟨_, (pss_cons (ps_if (PW.pt (pw_or (pt_cmpR op_gt (pe_callB (lenQ (K := K) rfl) (by rfl) T.b_len PySem.boot_len (pa_cons (pv 0) pa_nil)) (pe_glob (v := .int 40) rfl T.c_MOST_MOULDS ⟨_, rfl⟩) (nomark _)) (pw_or1 (pt_not (pt_val (pe_allG hr (by rfl) T.b_all (by decide +kernel) B.t_p__can_be_moulds hc ⟨rfl, rfl, by decide +kernel, by decide +kernel, rfl, rfl⟩ (pi_tupK (K := K) rfl (pv 0)) (fun _ _ _ _ _ _ => (pe_call (ok_p_is_mould T B) (room_gen hr) (by rfl) T.d_p_is_mould.mg T.d_p_is_mould.fn.kp T.d_p_is_mould.b .nil pass0 (pa_cons (pv 0) pa_nil))) (by intro _; rfl))))))) (pss_one (ps_ret pe_bl)) pss_nil)
      (pss_one (ps_ret (pe_call (ok_p_are_unlike T) (hr.mono (by decide)) (by rfl) T.d_p_are_unlike.mg T.d_p_are_unlike.fn.kp T.d_p_are_unlike.b .nil pass0 (pa_cons (pe_lc (own := [("one", 3)]) (g := gName 3) (tt := tYes) (by rfl) sc_p__can_be_moulds.nd (pi_tupK (K := K) rfl (pe_op (op_catTI (K := K) rfl) (pv 1) (pv 0))) (blkOk_by (own := [("one", 3)]) (N := ["things", "kettles", "thing", "one"]) (sc := defScope s_p__can_be_moulds) (by decide +kernel)) (fun _ _ _ _ _ => (pg_name (i := 3) sc_p__can_be_moulds.nd rfl (by first | exact Or.inl rfl | exact Or.inr rfl))) (fun _ _ _ _ _ => pts_nil) (fun _ _ _ _ _ => (pe_ix (ixT (K := K) rfl) (pv 3) pe_int (fun _ _ => rfl)))) pa_nil))))), ?_⟩
    refine ⟨_, rfl, a, xs, rfl, .inr ha, _, _, rfl, rfl, _, rfl, ?_⟩
    refine ite_bF (decide_eq_false (by omega)) ?_
    refine ⟨_, rfl, a, rfl, ⟨xs, ha⟩, t1, xs.length, fun i H' => Sm H H' ∧ i ≤ xs.length, fun H2 tb => ⟨Sm.tabbed tb t1, Nat.zero_le _⟩, fun i H2 ⟨sm, le⟩ => ?_⟩
    by_cases c : i = xs.length
    · refine .inl ⟨⟨xs, sm.tup ha, by omega⟩, _, rfl, iteF ?_⟩
      have nm : ∀ (j : Nat) (y : V), (ys ++ xs)[j]? = some y → ∃ (x : Str) (b : Addr) (zs : List V), (ms ++ ns)[j]? = some x ∧ y = .ref b ∧ SqT K H b (.str x :: zs) := fun j y hy => by
        by_cases lt : j < ys.length
        · rw [List.getElem?_append_left lt] at hy
          obtain ⟨x, d, hx, _, ⟨b, m, r, f, t, b2, e, h1, _⟩⟩ := hB.get hy
          exact ⟨x, b, _, by rw [List.getElem?_append_left (by rw [← hB.ln]; exact lt)]; exact hx, e, h1⟩
        · rw [List.getElem?_append_right (by omega)] at hy
          obtain ⟨x, d, hx, _, ⟨b, m, r, t, b2, e, h1, _⟩⟩ := hA.get hy
          exact ⟨x, b, _, by rw [List.getElem?_append_right (by have := hB.ln; omega), ← hB.ln]; exact hx, e, h1⟩
      refine ⟨_, rfl, _, rfl, k, a, ys, xs, rfl, rfl, sm.tup hk, sm.tup ha, (by intro z; rw [z] at lo; exact absurd lo (by decide)), small (by omega), fun c2 Hc sc hc2 => ?_⟩
      refine ⟨c2, rfl, ⟨_, hc2⟩, fun D hD => ?_⟩
      refine lc_tup (K := K) (a := c2) (xs := ys ++ xs) (fun j H3 => Same Hc H3 ∧ H3 D = some (.lst (((ms ++ ns).take j).map V.str))) ⟨same_new hD, upd_same⟩ (fun j H3 _ z => Same.tup z.1 hc2) (fun j y H3 hy z => ?_) (fun H3 z => ?_)
      · obtain ⟨s3, l3⟩ := z
        have jl := (List.getElem?_eq_some_iff.mp hy).1
        rw [List.length_append] at jl
        obtain ⟨x, b, zs, hx, rfl, h1⟩ := nm j y hy
        refine ⟨rfl, yesT ?_⟩
        refine ⟨_, rfl, b, _, 0, _, rfl, rfl, Same.tup (sc.trans s3) (sm.tup h1), atI_nat (j := 0) rfl, ?_⟩
        refine ⟨_, l3, by rw [List.length_map]; exact small' (by rw [List.length_take]; omega), Same.put s3 hD, ?_⟩
        rw [upd_same, List.take_add_one, hx, List.map_append] <;> rfl
      · obtain ⟨s3, l3⟩ := z
        have ln : (ys ++ xs).length = (ms ++ ns).length := by rw [List.length_append, List.length_append, hA.ln, hB.ln]
        rw [ln, List.take_length] at l3
        exact ⟨D, ms ++ ns, rfl, SqL.of l3, by rw [← ln, List.length_append]; omega, nd, q H3 (sm.trans ((Sm.of sc).trans (.of s3)))⟩
    · obtain ⟨x, hx⟩ : ∃ x, xs[i]? = some x := ⟨_, List.getElem?_eq_getElem (by omega)⟩
      refine .inr ⟨⟨xs, x, sm.tup ha, hx⟩, by omega, fun y H3 ⟨e3, hy⟩ => ?_⟩
      subst e3
      obtain rfl := Option.some.inj ((hy xs (sm.tup ha)).symm.trans hx)
      obtain ⟨x, d, _, _, k⟩ := hA.get hx
      exact ⟨_, rfl, .inl ⟨y, x, d, rfl, k.tk (.sm sm), sm.tab _ t2, fun H4 s4 => ⟨true, rfl, sm.trans s4, by omega⟩⟩⟩

end
end KR
namespace KR
open PySem PySem.Spec PyProof.Rows L2
section
variable {P : Program} {w : World} {K : PySem.W.Frag} {mg : Str → Option Value} {base : Heap}
/-- the attributes of a row, as they are stored -/
def rf (k m : Addr) : List (Str × V) := putF "moulds" (.ref m) (putF "kettles" (.ref k) [])
/-- a list or a tuple -/
def LT (K : PySem.W.Frag) (H : Hp) (a : Addr) (xs : List V) : Prop := SqL K H a xs ∨ SqT K H a xs
def sp_Row_init (K : PySem.W.Frag) (C : Addr) (Ps : List Addr) : Sp := fun vs H Q _ => ∃ (x dx k m : Addr) (xs ys : List V) (ns ms : List Str) (ds es : List PyData), vs = [.ref x, .ref k, .ref m] ∧ H x = some (.ins C dx []) ∧ LT K H k ys ∧ AllAt (KetAt K H) ys ms es ∧ LT K H m xs ∧ AllAt (MouAt K H) xs ns ds ∧
  xs.length ≤ 40 ∧ 1 ≤ ys.length ∧ ys.length ≤ 8 ∧ (ms ++ ns).Nodup ∧ Tbs Ps H ∧ ∀ k2 m2 H', H' x = some (.ins C dx (rf k2 m2)) → SqT K H' k2 ys → SqT K H' m2 xs → Fs x H H' → Q .non H'
theorem tuple_of {K : PySem.W.Frag} {H : Hp} {a : Addr} {xs : List V} {Q : VK} (h : LT K H a xs) (k : ∀ l H', Same H H' → SqT K H' l xs → Q (.ref l) H') : rTupI K [.ref a] H Q := by
  rcases h with h | h
  · exact ⟨a, xs, rfl, .inl ⟨h, fun l H' s _ e => k l H' s (SqT.of e)⟩⟩
  · exact ⟨a, xs, rfl, .inr ⟨h, k a H (Same.refl _) h⟩⟩
theorem ok_Row_init (T : All K mg) (B : Tabs T base) : FnOk P w K mg base CX0 7 T.f_Row_init T.fd_Row_init ["self", "kettles", "moulds"] (sp_Row_init K T.C_Row T.Ps) := by
  refine T.F_Row_init.ok sc_Row_init (fun vs H Q E h => ?_) (fun cdv A outer s H vs Q E hr h => ?_)
  · obtain ⟨x, dx, k, m, xs, ys, ns, ms, ds, es, rfl, _⟩ := h
    rfl
  · obtain ⟨x, dx, k, m, xs, ys, ns, ms, ds, es, rfl, hx, hk, hB, hm, hA, most, lo, hi, nd, hT, q⟩ := h
    refine ⟨_, (pss_cons (ps_set (i := 1) sc_Row_init.nd rfl (by first | exact Or.inl rfl | exact Or.inr rfl) (pe_callTy (tupI (K := K) rfl) (by rfl) T.b_tuple (by decide +kernel) (pa_cons (pv 1) pa_nil)))
      (pss_cons (ps_set (i := 2) sc_Row_init.nd rfl (by first | exact Or.inl rfl | exact Or.inr rfl) (pe_callTy (tupI (K := K) rfl) (by rfl) T.b_tuple (by decide +kernel) (pa_cons (pv 2) pa_nil)))
      (pss_cons (ps_if (pt_not (pt_val (pe_call (ok_p__can_be_kettles T B) hr (by rfl) T.d_p__can_be_kettles.mg T.d_p__can_be_kettles.fn.kp T.d_p__can_be_kettles.b .nil pass0 (pa_cons (pv 1) pa_nil)))) (pss_one ps_never) pss_nil)
      (pss_cons (ps_if (pt_not (pt_val (pe_call (ok_p__can_be_moulds T B) hr (by rfl) T.d_p__can_be_moulds.mg T.d_p__can_be_moulds.fn.kp T.d_p__can_be_moulds.b .nil pass0 (pa_cons (pv 2) (pa_cons (pv 1) pa_nil))))) (pss_one ps_never) pss_nil)
      (pss_cons (ps_fld (pv 0) (pv 1) rfl)
      (pss_one (ps_fld (pv 0) (pv 2) rfl))))))), ?_⟩
    refine ⟨_, rfl, ?_⟩
    dsimp only [tNil]
    refine tuple_of hk fun k2 H1 s1 hk2 => ?_
    have hm1 : LT K H1 m xs := hm.imp (fun z => s1.seq z) (fun z => Same.tup s1 z)
    refine ⟨_, rfl, ?_⟩
    dsimp only [tNil]
    refine tuple_of hm1 fun m2 H2 s2 hm2 => ?_
    have hk2' := Same.tup s2 hk2
    have sm2 : Sm H H2 := .of (s1.trans s2)
    have hB2 := hB.map fun _ _ _ => KetAt.tk (.sm sm2)
    have hA2 := hA.map fun _ _ _ => MouAt.tk (.sm sm2)
    have nd2 := (List.nodup_append.mp nd).1
    refine ⟨_, rfl, k2, ys, ms, es, rfl, hk2', hB2, lo, hi, nd2, hT.sm sm2, fun H3 s3 => ⟨_, rfl, iteF ?_⟩⟩
    have sm3 := sm2.trans s3
    refine ⟨_, rfl, _, rfl, m2, k2, xs, ys, ns, ms, ds, es, rfl, s3.tup hm2, hA.map fun _ _ _ => MouAt.tk (.sm sm3), s3.tup hk2', hB.map fun _ _ _ => KetAt.tk (.sm sm3), most, lo, hi, nd, hT.sm sm3, fun H4 s4 => ⟨_, rfl, iteF ?_⟩⟩
    have sm4 := sm3.trans s4
    have hx4 : H4 x = some (.ins T.C_Row dx []) := sm4.keep _ _ hx nofun
    refine ⟨_, rfl, _, rfl, x, T.C_Row, dx, [], rfl, hx4, T.L_Row, T.n_Row_kettles, (by show 0 < 1000; decide), ?_⟩
    refine ⟨_, rfl, _, rfl, x, T.C_Row, dx, _, rfl, upd_same, T.L_Row, T.n_Row_moulds, (by show 1 < 1000; decide), ?_⟩
    have fs : Fs x H4 (upd (upd H4 x (.ins T.C_Row dx (putF "kettles" (.ref k2) []))) x (.ins T.C_Row dx (rf k2 m2))) := ⟨fun b o n e _ => by rw [upd_ne n, upd_ne n]; exact e, fun b n ⟨g, e, t⟩ => ⟨g, by rw [upd_ne n, upd_ne n]; exact e, t⟩⟩
    have tk : TK K H4 (upd (upd H4 x (.ins T.C_Row dx (putF "kettles" (.ref k2) []))) x (.ins T.C_Row dx (rf k2 m2))) := .fs (fun xs z => by rw [hx4] at z; cases z) (fun b y z => by rw [hx4] at z; cases z) fs
    exact q k2 m2 _ upd_same (tk _ _ (s4.tup (s3.tup hk2'))) (tk _ _ (s4.tup (s3.tup hm2))) ((Fs.sm sm4).trans fs)
/-- an instance that is made -/
theorem make_same {J : Hp} {x dx C : Addr} (nx : J x = none) (ndx : J dx = none) : Same J (upd (upd J dx (.own x)) x (.ins C dx [])) := Same.put (same_new ndx) nx
theorem make_sm {J H : Hp} {x dx C : Addr} (nx : J x = none) (ndx : J dx = none) (f : Fs x (upd (upd J dx (.own x)) x (.ins C dx [])) H) : Sm J H :=
  ⟨fun c o e t => f.keep c o (ne_of_none e nx) (make_same nx ndx c o e) t, fun c h => f.tab c (fun z => by obtain ⟨q, e, _⟩ := h; rw [z, nx] at e; cases e) ((Sm.of (make_same nx ndx)).tab c h)⟩

end
end KR
namespace KR
open PySem PySem.Spec PyProof.Rows L2
section
variable {P : Program} {w : World} {K : PySem.W.Frag} {mg : Str → Option Value} {base : Heap}
theorem fdivs {t b : Int} (hb : b ≠ 0) : (b < 0 → t.fdiv (-((Nat.gcd t.natAbs b.natAbs : Nat) : Int)) = (low t b).1 ∧ b.fdiv (-((Nat.gcd t.natAbs b.natAbs : Nat) : Int)) = (low t b).2) ∧
    (¬ b < 0 → t.fdiv ((Nat.gcd t.natAbs b.natAbs : Nat) : Int) = (low t b).1 ∧ b.fdiv ((Nat.gcd t.natAbs b.natAbs : Nat) : Int) = (low t b).2) := by
  have d1 : ((Nat.gcd t.natAbs b.natAbs : Nat) : Int) ∣ t := Int.ofNat_dvd_left.mpr (Nat.gcd_dvd_left _ _)
  have d2 : ((Nat.gcd t.natAbs b.natAbs : Nat) : Int) ∣ b := Int.ofNat_dvd_left.mpr (Nat.gcd_dvd_right _ _)
  have hg : 0 < Nat.gcd t.natAbs b.natAbs := Nat.gcd_pos_of_pos_right _ (by omega)
  unfold low
  generalize Nat.gcd t.natAbs b.natAbs = g at *
  refine ⟨fun c => ?_, fun c => ?_⟩
  · rw [fdiv_neg d1, fdiv_neg d2, if_pos c]
    refine ⟨rfl, ?_⟩
    have e : (b.natAbs : Int) = -b := by omega
    show b / (g : Int) * -1 = (b.natAbs : Int) / (g : Int)
    rw [e]
    obtain ⟨z, rfl⟩ := d2
    rw [Int.mul_ediv_cancel_left _ (by omega), ← Int.mul_neg, Int.mul_ediv_cancel_left _ (by omega)]
    omega
  · rw [if_neg c, Int.fdiv_eq_ediv_of_nonneg _ (by omega), Int.fdiv_eq_ediv_of_nonneg _ (by omega)]
    have e : (b.natAbs : Int) = b := by omega
    refine ⟨by omega, ?_⟩
    show b / (g : Int) = (b.natAbs : Int) / (g : Int)
    rw [e]
theorem ok0_p_frac_of (T : All K mg) : FnOk P w K mg base CX0 1 T.f_p_frac_of T.fd_p_frac_of ["top", "bottom"] sp_lowV := by
  refine T.d_p_frac_of.fn.ok sc_p_frac_of (fun vs H Q E h => ?_) (fun cdv A outer s H vs Q E hr h => ?_)
  · obtain ⟨t, b, rfl, _⟩ := h
    rfl
  · obtain ⟨t, b, rfl, hb, ht, hb2, q⟩ := h
    refine ⟨_, (pss_cons (ps_set (i := 2) sc_p_frac_of.nd rfl (by first | exact Or.inl rfl | exact Or.inr rfl) (pe_callBfun cr_gcd (by rfl) T.m_gcd (pa_cons (pv 0) (pa_cons (pv 1) pa_nil))))
      (pss_cons (ps_if (pt_cmpR op_lt (pv 1) pe_int (nomark _)) (pss_one (ps_set (i := 2) sc_p_frac_of.nd rfl (by first | exact Or.inl rfl | exact Or.inr rfl) (pe_un un_neg (pv 2)))) pss_nil)
      (pss_one (ps_ret (pe_tupI (pa_cons (pe_op op_fdivX (pv 0) (pv 2)) (pa_cons (pe_op op_fdivX (pv 1) (pv 2)) pa_nil))))))), ?_⟩
    have hg : 0 < Nat.gcd t.natAbs b.natAbs := Nat.gcd_pos_of_pos_right _ (by omega)
    have hg2 : Nat.gcd t.natAbs b.natAbs < 2 ^ 8900 := Nat.lt_of_le_of_lt (Nat.le_of_dvd (by omega) (Nat.gcd_dvd_right _ _)) hb2
    obtain ⟨k1, k2⟩ := fdivs (t := t) hb
    refine ⟨_, rfl, _, rfl, _, _, rfl, ?_⟩
    refine ⟨_, rfl, _, _, rfl, rfl, _, rfl, ite2 (fun c => ?_) (fun c => ?_)⟩
    · have c1 : b < 0 := of_decide_eq_true c
      have hd : ∀ z : Int, DivOk z (-((Nat.gcd t.natAbs b.natAbs : Nat) : Int)) := fun z => divOk (b := 8900) (by omega) (by rw [Int.natAbs_neg, Int.natAbs_natCast]; exact hg2) (by decide) (by decide)
      refine ⟨_, rfl, _, rfl, _, rfl, _, rfl, _, _, rfl, rfl, hd _, _, rfl, _, rfl, _, _, rfl, rfl, hd _, rfl, fun p H1 s1 hp h1 => ?_⟩
      refine q p H1 s1 hp ?_
      rw [← (k1 c1).1, ← (k1 c1).2]
      exact h1
    · have c1 : ¬ b < 0 := of_decide_eq_false (Bool.eq_false_iff.mpr c)
      have hd : ∀ z : Int, DivOk z ((Nat.gcd t.natAbs b.natAbs : Nat) : Int) := fun z => divOk (b := 8900) (by omega) (by rw [Int.natAbs_natCast]; exact hg2) (by decide) (by decide)
      refine ⟨_, rfl, _, rfl, _, _, rfl, rfl, hd _, _, rfl, _, rfl, _, _, rfl, rfl, hd _, rfl, fun p H1 s1 hp h1 => ?_⟩
      refine q p H1 s1 hp ?_
      rw [← (k2 c1).1, ← (k2 c1).2]
      exact h1
theorem ok_p_frac_of (T : All K mg) : FnOk P w K mg base CX0 1 T.f_p_frac_of T.fd_p_frac_of ["top", "bottom"] (sp_lowW K) := (ok0_p_frac_of T).imp fun _ _ _ _ h => lowW h

end
end KR
namespace KR
open PySem PySem.Spec PyProof.Rows L2
section
variable {P : Program} {w : World} {K : PySem.W.Frag} {mg : Str → Option Value} {base : Heap}
theorem ok_p_sum_of (T : All K mg) : FnOk P w K mg base CX0 2 T.f_p_sum_of T.fd_p_sum_of ["one", "other"] (sp_w2 K (fun p q => p + q) (fun _ q => True)) := by
  refine T.d_p_sum_of.fn.ok sc_p_sum_of (fun vs H Q E h => ?_) (fun cdv A outer s H vs Q E hr h => ?_)
  · obtain ⟨x, y, p, q, rfl, _⟩ := h
    rfl
  · obtain ⟨x, y, p, q, rfl, hx, hy, zp, zq, hok, k⟩ := h
    have hx' : SqT K H x [.int p.num, .int (p.den : Int)] := hx
    have hy' : SqT K H y [.int q.num, .int (q.den : Int)] := hy
    refine ⟨_, (pss_one (ps_ret (pe_call (ok_p_frac_of T) hr (by rfl) T.d_p_frac_of.mg T.d_p_frac_of.fn.kp T.d_p_frac_of.b .nil pass0 (pa_cons (pe_op op_add (pe_op op_mulX (pe_ix (ixT (K := K) rfl) (pv 0) pe_int (fun _ _ => rfl)) (pe_ix (ixT (K := K) rfl) (pv 1) pe_int (fun _ _ => rfl))) (pe_op op_mulX (pe_ix (ixT (K := K) rfl) (pv 1) pe_int (fun _ _ => rfl)) (pe_ix (ixT (K := K) rfl) (pv 0) pe_int (fun _ _ => rfl)))) (pa_cons (pe_op op_mulX (pe_ix (ixT (K := K) rfl) (pv 0) pe_int (fun _ _ => rfl)) (pe_ix (ixT (K := K) rfl) (pv 1) pe_int (fun _ _ => rfl))) pa_nil))))), ?_⟩
    obtain ⟨a1, a2⟩ := zp
    obtain ⟨b1, b2⟩ := zq
    have hp := den_ne' p
    have hq := den_ne' q
    refine ⟨_, rfl, x, _, 0, _, rfl, rfl, hx', at0, _, rfl, y, _, 1, _, rfl, rfl, hy', at1, _, _, rfl, rfl, mulZ a1 b2 (by omega), _, rfl, y, _, 0, _, rfl, rfl, hy', at0, _, rfl, x, _, 1, _, rfl, rfl, hx', at1, _, _, rfl, rfl, mulZ b1 a2 (by omega), _, _, rfl, rfl, ?_⟩
    refine ⟨_, rfl, x, _, 1, _, rfl, rfl, hx', at1, _, rfl, y, _, 1, _, rfl, rfl, hy', at1, _, _, rfl, rfl, mulZ a2 b2 (by omega), ?_⟩
    refine ⟨_, _, rfl, Int.mul_ne_zero hp hq, lt_up (add_lt (wide_lt a1 b2) (wide_lt b1 a2)) (by omega), lt_up (wide_lt a2 b2) (by omega), ?_⟩
    intro z H' s1 n1 h1
    rw [rq_add] at h1
    exact k z H' s1 n1 h1

end
end KR
namespace KR
open PySem PySem.Spec PyProof.Rows L2
section
variable {P : Program} {w : World} {K : PySem.W.Frag} {mg : Str → Option Value} {base : Heap}
theorem ok_p_difference (T : All K mg) : FnOk P w K mg base CX0 2 T.f_p_difference T.fd_p_difference ["one", "other"] (sp_w2 K (fun p q => p - q) (fun _ q => True)) := by
  refine T.d_p_difference.fn.ok sc_p_difference (fun vs H Q E h => ?_) (fun cdv A outer s H vs Q E hr h => ?_)
  · obtain ⟨x, y, p, q, rfl, _⟩ := h
    rfl
  · obtain ⟨x, y, p, q, rfl, hx, hy, zp, zq, hok, k⟩ := h
    have hx' : SqT K H x [.int p.num, .int (p.den : Int)] := hx
    have hy' : SqT K H y [.int q.num, .int (q.den : Int)] := hy
    refine ⟨_, (pss_one (ps_ret (pe_call (ok_p_frac_of T) hr (by rfl) T.d_p_frac_of.mg T.d_p_frac_of.fn.kp T.d_p_frac_of.b .nil pass0 (pa_cons (pe_op op_sub (pe_op op_mulX (pe_ix (ixT (K := K) rfl) (pv 0) pe_int (fun _ _ => rfl)) (pe_ix (ixT (K := K) rfl) (pv 1) pe_int (fun _ _ => rfl))) (pe_op op_mulX (pe_ix (ixT (K := K) rfl) (pv 1) pe_int (fun _ _ => rfl)) (pe_ix (ixT (K := K) rfl) (pv 0) pe_int (fun _ _ => rfl)))) (pa_cons (pe_op op_mulX (pe_ix (ixT (K := K) rfl) (pv 0) pe_int (fun _ _ => rfl)) (pe_ix (ixT (K := K) rfl) (pv 1) pe_int (fun _ _ => rfl))) pa_nil))))), ?_⟩
    obtain ⟨a1, a2⟩ := zp
    obtain ⟨b1, b2⟩ := zq
    have hp := den_ne' p
    have hq := den_ne' q
    refine ⟨_, rfl, x, _, 0, _, rfl, rfl, hx', at0, _, rfl, y, _, 1, _, rfl, rfl, hy', at1, _, _, rfl, rfl, mulZ a1 b2 (by omega), _, rfl, y, _, 0, _, rfl, rfl, hy', at0, _, rfl, x, _, 1, _, rfl, rfl, hx', at1, _, _, rfl, rfl, mulZ b1 a2 (by omega), _, _, rfl, rfl, ?_⟩
    refine ⟨_, rfl, x, _, 1, _, rfl, rfl, hx', at1, _, rfl, y, _, 1, _, rfl, rfl, hy', at1, _, _, rfl, rfl, mulZ a2 b2 (by omega), ?_⟩
    refine ⟨_, _, rfl, Int.mul_ne_zero hp hq, lt_up (sub_lt (wide_lt a1 b2) (wide_lt b1 a2)) (by omega), lt_up (wide_lt a2 b2) (by omega), ?_⟩
    intro z H' s1 n1 h1
    rw [rq_sub] at h1
    exact k z H' s1 n1 h1

end
end KR
namespace KR
open PySem PySem.Spec PyProof.Rows L2
section
variable {P : Program} {w : World} {K : PySem.W.Frag} {mg : Str → Option Value} {base : Heap}
theorem ok_p_product (T : All K mg) : FnOk P w K mg base CX0 2 T.f_p_product T.fd_p_product ["one", "other"] (sp_w2 K (fun p q => p * q) (fun _ q => True)) := by
  refine T.d_p_product.fn.ok sc_p_product (fun vs H Q E h => ?_) (fun cdv A outer s H vs Q E hr h => ?_)
  · obtain ⟨x, y, p, q, rfl, _⟩ := h
    rfl
  · obtain ⟨x, y, p, q, rfl, hx, hy, zp, zq, hok, k⟩ := h
    have hx' : SqT K H x [.int p.num, .int (p.den : Int)] := hx
    have hy' : SqT K H y [.int q.num, .int (q.den : Int)] := hy
    refine ⟨_, (pss_one (ps_ret (pe_call (ok_p_frac_of T) hr (by rfl) T.d_p_frac_of.mg T.d_p_frac_of.fn.kp T.d_p_frac_of.b .nil pass0 (pa_cons (pe_op op_mulX (pe_ix (ixT (K := K) rfl) (pv 0) pe_int (fun _ _ => rfl)) (pe_ix (ixT (K := K) rfl) (pv 1) pe_int (fun _ _ => rfl))) (pa_cons (pe_op op_mulX (pe_ix (ixT (K := K) rfl) (pv 0) pe_int (fun _ _ => rfl)) (pe_ix (ixT (K := K) rfl) (pv 1) pe_int (fun _ _ => rfl))) pa_nil))))), ?_⟩
    obtain ⟨a1, a2⟩ := zp
    obtain ⟨b1, b2⟩ := zq
    have hp := den_ne' p
    have hq := den_ne' q
    refine ⟨_, rfl, x, _, 0, _, rfl, rfl, hx', at0, _, rfl, y, _, 0, _, rfl, rfl, hy', at0, _, _, rfl, rfl, mulZ a1 b1 (by omega), ?_⟩
    refine ⟨_, rfl, x, _, 1, _, rfl, rfl, hx', at1, _, rfl, y, _, 1, _, rfl, rfl, hy', at1, _, _, rfl, rfl, mulZ a2 b2 (by omega), ?_⟩
    refine ⟨_, _, rfl, Int.mul_ne_zero hp hq, lt_up (wide_lt a1 b1) (by omega), lt_up (wide_lt a2 b2) (by omega), ?_⟩
    intro z H' s1 n1 h1
    rw [rq_mul] at h1
    exact k z H' s1 n1 h1

end
end KR
namespace KR
open PySem PySem.Spec PyProof.Rows L2
section
variable {P : Program} {w : World} {K : PySem.W.Frag} {mg : Str → Option Value} {base : Heap}
theorem ok_p_quotient (T : All K mg) : FnOk P w K mg base CX0 2 T.f_p_quotient T.fd_p_quotient ["one", "other"] (sp_w2 K (fun p q => p / q) (fun _ q => q ≠ 0)) := by
  refine T.d_p_quotient.fn.ok sc_p_quotient (fun vs H Q E h => ?_) (fun cdv A outer s H vs Q E hr h => ?_)
  · obtain ⟨x, y, p, q, rfl, _⟩ := h
    rfl
  · obtain ⟨x, y, p, q, rfl, hx, hy, zp, zq, hok, k⟩ := h
    have hx' : SqT K H x [.int p.num, .int (p.den : Int)] := hx
    have hy' : SqT K H y [.int q.num, .int (q.den : Int)] := hy
    refine ⟨_, (pss_one (ps_ret (pe_call (ok_p_frac_of T) hr (by rfl) T.d_p_frac_of.mg T.d_p_frac_of.fn.kp T.d_p_frac_of.b .nil pass0 (pa_cons (pe_op op_mulX (pe_ix (ixT (K := K) rfl) (pv 0) pe_int (fun _ _ => rfl)) (pe_ix (ixT (K := K) rfl) (pv 1) pe_int (fun _ _ => rfl))) (pa_cons (pe_op op_mulX (pe_ix (ixT (K := K) rfl) (pv 0) pe_int (fun _ _ => rfl)) (pe_ix (ixT (K := K) rfl) (pv 1) pe_int (fun _ _ => rfl))) pa_nil))))), ?_⟩
    obtain ⟨a1, a2⟩ := zp
    obtain ⟨b1, b2⟩ := zq
    have hp := den_ne' p
    have hq := den_ne' q
    refine ⟨_, rfl, x, _, 0, _, rfl, rfl, hx', at0, _, rfl, y, _, 1, _, rfl, rfl, hy', at1, _, _, rfl, rfl, mulZ a1 b2 (by omega), ?_⟩
    refine ⟨_, rfl, x, _, 1, _, rfl, rfl, hx', at1, _, rfl, y, _, 0, _, rfl, rfl, hy', at0, _, _, rfl, rfl, mulZ a2 b1 (by omega), ?_⟩
    refine ⟨_, _, rfl, Int.mul_ne_zero hp (num_ne hok), lt_up (wide_lt a1 b2) (by omega), lt_up (wide_lt a2 b1) (by omega), ?_⟩
    intro z H' s1 n1 h1
    rw [rq_div] at h1
    exact k z H' s1 n1 h1

end
end KR
namespace KR
open PySem PySem.Spec PyProof.Rows L2
section
variable {P : Program} {w : World} {K : PySem.W.Frag} {mg : Str → Option Value} {base : Heap}
theorem ok_p_is_lesser (T : All K mg) : FnOk P w K mg base CX0 3 T.f_p_is_lesser T.fd_p_is_lesser ["one", "other"] (sp_lessB K) := by
  refine T.d_p_is_lesser.fn.ok sc_p_is_lesser (fun vs H Q E h => ?_) (fun cdv A outer s H vs Q E hr h => ?_)
  · obtain ⟨x, y, p, q, rfl, _⟩ := h
    rfl
  · obtain ⟨x, y, p, q, rfl, hx, hy, zp, zq, k⟩ := h
    have hx' : SqT K H x [.int p.num, .int (p.den : Int)] := hx
    have hy' : SqT K H y [.int q.num, .int (q.den : Int)] := hy
    refine ⟨_, (pss_one (ps_ret (pe_and (pe_call (okq_p_is_frac T) hr (by rfl) T.d_p_is_frac.mg T.d_p_is_frac.fn.kp T.d_p_is_frac.b .nil pass0 (pa_cons (pv 1) pa_nil)) (pe_one (pe_cmpR op_lt (pe_op op_mulX (pe_ix (ixT (K := K) rfl) (pv 0) pe_int (fun _ _ => rfl)) (pe_ix (ixT (K := K) rfl) (pv 1) pe_int (fun _ _ => rfl))) (pe_op op_mulX (pe_ix (ixT (K := K) rfl) (pv 1) pe_int (fun _ _ => rfl)) (pe_ix (ixT (K := K) rfl) (pv 0) pe_int (fun _ _ => rfl))) (nomark _)))))), ?_⟩
    refine ⟨_, rfl, y, q.num, (q.den : Int), rfl, hy, rat_low q, true, rfl, ite_bT rfl ?_⟩
    obtain ⟨a1, a2⟩ := zp
    obtain ⟨b1, b2⟩ := zq
    refine ⟨_, rfl, x, _, 0, _, rfl, rfl, hx', at0, _, rfl, y, _, 1, _, rfl, rfl, hy', at1, _, _, rfl, rfl, mulZ a1 b2 (by omega), ?_⟩
    refine ⟨_, rfl, y, _, 0, _, rfl, rfl, hy', at0, _, rfl, x, _, 1, _, rfl, rfl, hx', at1, _, _, rfl, rfl, mulZ b1 a2 (by omega), _, _, rfl, rfl, ?_⟩
    have e : decide (p.num * (q.den : Int) < q.num * (p.den : Int)) = decide (p < q) := by
      rw [decide_eq_decide]
      exact lt_cross p q
    show Q (.bl (decide (p.num * (q.den : Int) < q.num * (p.den : Int)))) H
    rw [e]
    exact k

end
end KR
namespace KR
open PySem PySem.Spec PyProof.Rows L2
section
variable {P : Program} {w : World} {K : PySem.W.Frag} {mg : Str → Option Value} {base : Heap}
theorem ok_p_water_at (T : All K mg) : FnOk P w K mg base CX0 2 T.f_p_water_at T.fd_p_water_at ["sugar", "mark"] (sp_w2 K (fun s u => wat s u) (fun _ u => u ≠ 0)) := by
  refine T.d_p_water_at.fn.ok sc_p_water_at (fun vs H Q E h => ?_) (fun cdv A outer s H vs Q E hr h => ?_)
  · obtain ⟨x, y, p, q, rfl, _⟩ := h
    rfl
  · obtain ⟨x, y, p, q, rfl, hx, hy, zp, zq, hok, k⟩ := h
    have hx' : SqT K H x [.int p.num, .int (p.den : Int)] := hx
    have hy' : SqT K H y [.int q.num, .int (q.den : Int)] := hy
    refine ⟨_, (pss_one (ps_ret (pe_call (ok_p_frac_of T) hr (by rfl) T.d_p_frac_of.mg T.d_p_frac_of.fn.kp T.d_p_frac_of.b .nil pass0 (pa_cons (pe_op op_mulX (pe_ix (ixT (K := K) rfl) (pv 0) pe_int (fun _ _ => rfl)) (pe_op op_sub (pe_ix (ixT (K := K) rfl) (pv 1) pe_int (fun _ _ => rfl)) (pe_ix (ixT (K := K) rfl) (pv 1) pe_int (fun _ _ => rfl)))) (pa_cons (pe_op op_mulX (pe_ix (ixT (K := K) rfl) (pv 0) pe_int (fun _ _ => rfl)) (pe_ix (ixT (K := K) rfl) (pv 1) pe_int (fun _ _ => rfl))) pa_nil))))), ?_⟩
    obtain ⟨a1, a2⟩ := zp
    obtain ⟨b1, b2⟩ := zq
    have hp := den_ne' p
    have hq := num_ne hok
    have z1 := sub_lt b2 b1
    refine ⟨_, rfl, x, _, 0, _, rfl, rfl, hx', at0, _, rfl, y, _, 1, _, rfl, rfl, hy', at1, _, rfl, y, _, 0, _, rfl, rfl, hy', at0, _, _, rfl, rfl, _, _, rfl, rfl, mulZ a1 z1 (by omega), ?_⟩
    refine ⟨_, rfl, x, _, 1, _, rfl, rfl, hx', at1, _, rfl, y, _, 0, _, rfl, rfl, hy', at0, _, _, rfl, rfl, mulZ a2 b1 (by omega), ?_⟩
    refine ⟨_, _, rfl, Int.mul_ne_zero hp hq, lt_up (wide_lt a1 z1) (by omega), lt_up (wide_lt a2 b1) (by omega), fun z H' s1 n1 h1 => ?_⟩
    have h1 : FrQ K H' z (rq (p.num * ((q.den : Int) - q.num)) (p.den * q.num)) := h1
    rw [rq_wat _ _ hok] at h1
    exact k z H' s1 n1 h1

end
end KR
namespace KR
open PySem PySem.Spec PyProof.Rows L2
section
variable {P : Program} {w : World} {K : PySem.W.Frag} {mg : Str → Option Value} {base : Heap}
theorem ok_p_boiled_down (T : All K mg) : FnOk P w K mg base CX0 4 T.f_p_boiled_down T.fd_p_boiled_down ["juice", "fire", "mark", "hours"] (sp_wboil K) := by
  refine T.d_p_boiled_down.fn.ok sc_p_boiled_down (fun vs H Q E h => ?_) (fun cdv A outer s H vs Q E hr h => ?_)
  · obtain ⟨j, mk, hr, f, s, w, u, h, rfl, _⟩ := h
    rfl
  · obtain ⟨j, mk, hh, f, s, w, u, h, rfl, hj, hu, hhr, za, zb, zu, zc, zl, zf, zd, hf, u0, q⟩ := h
    refine ⟨_, (pss_cons (ps_asg (pv 0) (pg_tupK (K := K) rfl rfl (pgs_cons (pg_name (i := 4) sc_p_boiled_down.nd rfl (by first | exact Or.inl rfl | exact Or.inr rfl)) (pgs_cons (pg_name (i := 5) sc_p_boiled_down.nd rfl (by first | exact Or.inl rfl | exact Or.inr rfl)) pgs_nil))))
      (pss_cons (ps_set (i := 6) sc_p_boiled_down.nd rfl (by first | exact Or.inl rfl | exact Or.inr rfl) (pe_call (ok_p_water_at T) (hr.mono (by decide)) (by rfl) T.d_p_water_at.mg T.d_p_water_at.fn.kp T.d_p_water_at.b .nil pass0 (pa_cons (pv 4) (pa_cons (pv 2) pa_nil))))
      (pss_cons (ps_if (pt_not (pt_val (pe_call (ok_p_is_lesser T) hr (by rfl) T.d_p_is_lesser.mg T.d_p_is_lesser.fn.kp T.d_p_is_lesser.b .nil pass0 (pa_cons (pv 6) (pa_cons (pv 5) pa_nil))))) (pss_one (ps_ret (pv 0))) pss_nil)
      (pss_cons (ps_set (i := 7) sc_p_boiled_down.nd rfl (by first | exact Or.inl rfl | exact Or.inr rfl) (pe_call (ok_p_difference T) (hr.mono (by decide)) (by rfl) T.d_p_difference.mg T.d_p_difference.fn.kp T.d_p_difference.b .nil pass0 (pa_cons (pv 5) (pa_cons (pe_call (ok_p_product T) (hr.mono (by decide)) (by rfl) T.d_p_product.mg T.d_p_product.fn.kp T.d_p_product.b .nil pass0 (pa_cons (pe_tupI (pa_cons (pv 1) (pa_cons pe_int pa_nil))) (pa_cons (pv 3) pa_nil))) pa_nil))))
      (pss_cons (ps_J (ps_if (pt_val (pe_call (ok_p_is_lesser T) hr (by rfl) T.d_p_is_lesser.mg T.d_p_is_lesser.fn.kp T.d_p_is_lesser.b .nil pass0 (pa_cons (pv 7) (pa_cons (pv 6) pa_nil)))) (pss_one (ps_set (i := 7) sc_p_boiled_down.nd rfl (by first | exact Or.inl rfl | exact Or.inr rfl) (pv 6))) pss_nil))
      (pss_one (ps_ret (pe_tupI (pa_cons (pv 4) (pa_cons (pv 7) pa_nil)))))))))), ?_⟩
    obtain ⟨x1, x2, hjj, h1, h2⟩ := hj
    refine ⟨_, rfl, j, _, rfl, hjj, rfl, _, _, rfl, _, _, rfl, rfl, ?_⟩
    refine ⟨_, rfl, _, rfl, x1, mk, s, u, rfl, h1, hu, za, zu, u0, fun l H1 s1 n1 hl => ?_⟩
    have hl' : FrQ K H1 l (wat s u) := hl
    refine ⟨_, rfl, _, rfl, l, x2, wat s u, w, rfl, hl', h2.same s1, zl, zb, _, rfl, ite2 (fun cc => ?_) (fun cc => ?_)⟩
    · have c1 : ¬ wat s u < w := by simpa using cc
      refine ⟨_, rfl, ?_⟩
      have e : boil s w f u h = w := by
        unfold boil
        rw [if_neg c1]
      refine q j H1 s1 ?_
      rw [e]
      exact JuQ.same ⟨x1, x2, hjj, h1, h2⟩ s1
    · have c1 : wat s u < w := by simpa using cc
      refine ⟨_, rfl, _, rfl, rfl, fun t H2 s2 n2 h2' => ?_⟩
      refine ⟨_, rfl, t, hh, (f : Rat), h, rfl, .int h2', hhr.same (s1.trans s2), (Sz.int hf (by decide) : Sz 14 (f : Rat)).up (by decide), zc, trivial, fun m H3 s3 n3 h3 => ?_⟩
      refine ⟨x2, m, w, (f : Rat) * h, rfl, h2.same (s1.trans (s2.trans s3)), h3, zb, zf, trivial, fun d H4 s4 n4 h4 => ?_⟩
      have s14 : Same H1 H4 := s2.trans (s3.trans s4)
      refine ⟨fun σ' H' => ∃ y : Addr, σ' = [some (.ref j), some (.int f), some (.ref mk), some (.ref hh), some (.ref x1), some (.ref x2), some (.ref l), some (.ref y)] ∧ FrQ K H' y (boil s w f u h) ∧ H' = H4, ?_, ?_⟩
      · rintro σ' H' ⟨y, rfl, hy, rfl⟩
        refine ⟨_, rfl, _, rfl, rfl, fun z H5 s5 n5 h5 => ?_⟩
        exact q z H5 (s1.trans (s14.trans s5)) (.new h5 (h1.same (s1.trans (s14.trans s5))) (hy.same s5))
      · refine ⟨_, rfl, _, rfl, d, l, _, _, rfl, h4, hl'.same s14, zd, zl, _, rfl, ite2 (fun c2 => ?_) (fun c2 => ?_)⟩
        · have c3 : w - (f : Rat) * h < wat s u := of_decide_eq_true c2
          refine ⟨_, rfl, l, rfl, ?_, rfl⟩
          unfold boil
          rw [if_pos c1, if_pos c3]
          exact hl'.same s14
        · have c3 : ¬ w - (f : Rat) * h < wat s u := of_decide_eq_false (Bool.eq_false_iff.mpr c2)
          refine ⟨d, rfl, ?_, rfl⟩
          unfold boil
          rw [if_pos c1, if_neg c3]
          exact h4

end
end KR
namespace KR
open PySem PySem.Spec PyProof.Rows L2
section
variable {P : Program} {w : World} {K : PySem.W.Frag} {mg : Str → Option Value} {base : Heap}
theorem ok_p_ready_in (T : All K mg) : FnOk P w K mg base CX0 4 T.f_p_ready_in T.fd_p_ready_in ["juice", "fire", "mark"] (sp_wready K) := by
  refine T.d_p_ready_in.fn.ok sc_p_ready_in (fun vs H Q E h => ?_) (fun cdv A outer s H vs Q E hr h => ?_)
  · obtain ⟨j, mk, f, s, w, u, rfl, _⟩ := h
    rfl
  · obtain ⟨j, mk, f, s, w, u, rfl, hj, hu, za, zb, zu, zl, zd, hf, u0, q⟩ := h
    obtain ⟨x1, x2, hjj, h1, h2⟩ := hj
    refine ⟨_, (pss_cons (ps_asg (pv 0) (pg_tupK (K := K) rfl rfl (pgs_cons (pg_name (i := 3) sc_p_ready_in.nd rfl (by first | exact Or.inl rfl | exact Or.inr rfl)) (pgs_cons (pg_name (i := 4) sc_p_ready_in.nd rfl (by first | exact Or.inl rfl | exact Or.inr rfl)) pgs_nil))))
      (pss_cons (ps_if (pt_cmpR (eqDK (K := K) rfl hr.units) (pv 3) (pe_glob (v := .ref T.C_NOUGHT) rfl T.g_NOUGHT rfl) (nomark _)) (pss_one (ps_ret pe_non)) pss_nil)
      (pss_cons (ps_set (i := 5) sc_p_ready_in.nd rfl (by first | exact Or.inl rfl | exact Or.inr rfl) (pe_call (ok_p_water_at T) (hr.mono (by decide)) (by rfl) T.d_p_water_at.mg T.d_p_water_at.fn.kp T.d_p_water_at.b .nil pass0 (pa_cons (pv 3) (pa_cons (pv 2) pa_nil))))
      (pss_cons (ps_if (pt_not (pt_val (pe_call (ok_p_is_lesser T) hr (by rfl) T.d_p_is_lesser.mg T.d_p_is_lesser.fn.kp T.d_p_is_lesser.b .nil pass0 (pa_cons (pv 5) (pa_cons (pv 4) pa_nil))))) (pss_one (ps_ret (pe_glob (v := .ref T.C_NOUGHT) rfl T.g_NOUGHT rfl))) pss_nil)
      (pss_cons (ps_if (pt_cmpR op_eq (pv 1) pe_int (nomark _)) (pss_one (ps_ret pe_non)) pss_nil)
      (pss_cons (ps_set (i := 6) sc_p_ready_in.nd rfl (by first | exact Or.inl rfl | exact Or.inr rfl) (pe_call (ok_p_difference T) (hr.mono (by decide)) (by rfl) T.d_p_difference.mg T.d_p_difference.fn.kp T.d_p_difference.b .nil pass0 (pa_cons (pv 4) (pa_cons (pv 5) pa_nil))))
      (pss_one (ps_ret (pe_call (ok_p_frac_of T) (hr.mono (by decide)) (by rfl) T.d_p_frac_of.mg T.d_p_frac_of.fn.kp T.d_p_frac_of.b .nil pass0 (pa_cons (pe_ix (ixT (K := K) rfl) (pv 6) pe_int (fun _ _ => rfl)) (pa_cons (pe_op op_mulX (pe_ix (ixT (K := K) rfl) (pv 6) pe_int (fun _ _ => rfl)) (pv 1)) pa_nil))))))))))), ?_⟩
    refine ⟨_, rfl, j, _, rfl, hjj, rfl, _, _, rfl, _, _, rfl, rfl, ?_⟩
    refine ⟨_, rfl, dq s, .tuple [.int 0, .int 1], h1.dp, .tup (T.q_NOUGHT H) (.cons (.int _) (.cons (.int _) .nil)), rfl, rfl, _, rfl, ?_⟩
    rw [show PyData.eqv (dq s) (.tuple [.int 0, .int 1]) = decide (s = 0) from eqv_pair.trans is_zero]
    refine ite2 (fun c => ?_) (fun c => ?_)
    · have e : ready s w f u = none := if_pos (of_decide_eq_true c)
      exact q _ H (.refl _) (by rw [e] <;> rfl)
    have s0 : s ≠ 0 := of_decide_eq_false (Bool.eq_false_iff.mpr c)
    refine ⟨_, rfl, _, rfl, x1, mk, s, u, rfl, h1, hu, za, zu, u0, fun l H1 s1 n1 hl => ?_⟩
    have hl' : FrQ K H1 l (wat s u) := hl
    refine ⟨_, rfl, _, rfl, l, x2, wat s u, w, rfl, hl', h2.same s1, zl, zb, _, rfl, ite2 (fun cc => ?_) (fun cc => ?_)⟩
    · have c1 : ¬ wat s u < w := by simpa using cc
      have e : ready s w f u = some 0 := (if_neg s0).trans (if_neg c1)
      exact q _ H1 s1 (by rw [e]; exact ⟨_, rfl, T.q_NOUGHT H1⟩)
    have c1 : wat s u < w := by simpa using cc
    refine ⟨_, rfl, rfl, _, rfl, ite2 (fun c2 => ?_) (fun c2 => ?_)⟩
    · have f0 : f = 0 := V.int.inj (of_decide_eq_true c2)
      have e : ready s w f u = none := (if_neg s0).trans ((if_pos c1).trans (if_pos f0))
      exact q _ H1 s1 (by rw [e] <;> rfl)
    have f0 : f ≠ 0 := fun z => c2 (by rw [z] <;> exact decide_eq_true rfl)
    have e : ready s w f u = some ((w - wat s u) / (f : Rat)) := (if_neg s0).trans ((if_pos c1).trans (if_neg f0))
    refine ⟨_, rfl, _, rfl, x2, l, w, wat s u, rfl, h2.same s1, hl', zb, zl, trivial, fun o H2 s2 n2 h3 => ?_⟩
    have h3' : SqT K H2 o [.int (w - wat s u).num, .int ((w - wat s u).den : Int)] := h3
    obtain ⟨r1, r2⟩ := zd
    refine ⟨_, rfl, o, _, 0, _, rfl, rfl, h3', at0, _, rfl, o, _, 1, _, rfl, rfl, h3', at1, _, rfl, _, _, rfl, rfl, mulZ r2 hf (by omega), ?_⟩
    refine ⟨_, _, rfl, Int.mul_ne_zero (den_ne' _) f0, lt_up r1 (by omega), lt_up (wide_lt r2 hf) (by omega), fun z H4 s4 n4 h4 => ?_⟩
    have h4 : FrQ K H4 z (rq (w - wat s u).num (((w - wat s u).den : Int) * f)) := h4
    rw [rq_divi] at h4
    exact q _ H4 (s1.trans (s2.trans s4)) (by rw [e]; exact ⟨z, rfl, h4⟩)

end
end KR
namespace KR
open PySem PySem.Spec PyProof.Rows L2
section
variable {P : Program} {w : World} {K : PySem.W.Frag} {mg : Str → Option Value} {base : Heap}
theorem ok_p_mixed (T : All K mg) : FnOk P w K mg base CX0 3 T.f_p_mixed T.fd_p_mixed ["one", "other"] (sp_jw2 K) := by
  refine T.d_p_mixed.fn.ok sc_p_mixed (fun vs H Q E h => ?_) (fun cdv A outer s H vs Q E hr h => ?_)
  · obtain ⟨x, y, s, w, s', w', rfl, _⟩ := h
    rfl
  · obtain ⟨x, y, s, w, s', w', rfl, ⟨a1, a2, hx, ha1, ha2⟩, ⟨b1, b2, hy, hb1, hb2⟩, za, zb, zc, zd, q⟩ := h
    refine ⟨_, (pss_one (ps_ret (pe_tupI (pa_cons (pe_call (ok_p_sum_of T) hr (by rfl) T.d_p_sum_of.mg T.d_p_sum_of.fn.kp T.d_p_sum_of.b .nil pass0 (pa_cons (pe_ix (ixT (K := K) rfl) (pv 0) pe_int (fun _ _ => rfl)) (pa_cons (pe_ix (ixT (K := K) rfl) (pv 1) pe_int (fun _ _ => rfl)) pa_nil))) (pa_cons (pe_call (ok_p_sum_of T) hr (by rfl) T.d_p_sum_of.mg T.d_p_sum_of.fn.kp T.d_p_sum_of.b .nil pass0 (pa_cons (pe_ix (ixT (K := K) rfl) (pv 0) pe_int (fun _ _ => rfl)) (pa_cons (pe_ix (ixT (K := K) rfl) (pv 1) pe_int (fun _ _ => rfl)) pa_nil))) pa_nil))))), ?_⟩
    refine ⟨_, rfl, x, _, 0, _, rfl, rfl, hx, at0, _, rfl, y, _, 0, _, rfl, rfl, hy, at0, a1, b1, s, s', rfl, ha1, hb1, za, zc, trivial, fun z1 H1 s1 n1 h1 => ?_⟩
    refine ⟨_, rfl, x, _, 1, _, rfl, rfl, Same.tup s1 hx, at1, _, rfl, y, _, 1, _, rfl, rfl, Same.tup s1 hy, at1, a2, b2, w, w', rfl, ha2.same s1, hb2.same s1, zb, zd, trivial, fun z2 H2 s2 n2 h2 => ?_⟩
    refine ⟨rfl, fun z H3 s3 n3 h3 => ?_⟩
    exact q z H3 (s1.trans (s2.trans s3)) (.new h3 (h1.same (s2.trans s3)) (h2.same s3))

end
end KR
namespace KR
open PySem PySem.Spec PyProof.Rows L2
section
variable {P : Program} {w : World} {K : PySem.W.Frag} {mg : Str → Option Value} {base : Heap}
theorem ok_p_volume_of (T : All K mg) : FnOk P w K mg base CX0 3 T.f_p_volume_of T.fd_p_volume_of ["juice"] (sp_volW K) := by
  refine T.d_p_volume_of.fn.ok sc_p_volume_of (fun vs H Q E h => ?_) (fun cdv A outer s H vs Q E hr h => ?_)
  · obtain ⟨x, s, w, rfl, _⟩ := h
    rfl
  · obtain ⟨x, s, w, rfl, ⟨a1, a2, hx, ha1, ha2⟩, za, zb, q⟩ := h
    refine ⟨_, (pss_one (ps_ret (pe_call (ok_p_sum_of T) hr (by rfl) T.d_p_sum_of.mg T.d_p_sum_of.fn.kp T.d_p_sum_of.b .nil pass0 (pa_cons (pe_ix (ixT (K := K) rfl) (pv 0) pe_int (fun _ _ => rfl)) (pa_cons (pe_ix (ixT (K := K) rfl) (pv 0) pe_int (fun _ _ => rfl)) pa_nil))))), ?_⟩
    refine ⟨_, rfl, x, _, 0, _, rfl, rfl, hx, at0, _, rfl, x, _, 1, _, rfl, rfl, hx, at1, a1, a2, s, w, rfl, ha1, ha2, za, zb, trivial, fun z1 H1 s1 n1 h1 => ?_⟩
    exact q z1 H1 s1 h1

end
end KR
namespace KR
open PySem PySem.Spec PyProof.Rows L2
section
variable {P : Program} {w : World} {K : PySem.W.Frag} {mg : Str → Option Value} {base : Heap}
theorem ok_p_strength_of (T : All K mg) : FnOk P w K mg base CX0 4 T.f_p_strength_of T.fd_p_strength_of ["juice"] (sp_wstr K) := by
  refine T.d_p_strength_of.fn.ok sc_p_strength_of (fun vs H Q E h => ?_) (fun cdv A outer s H vs Q E hr h => ?_)
  · obtain ⟨x, s, w, rfl, _⟩ := h
    rfl
  · obtain ⟨x, s, w, rfl, hj, za, zb, zv, q⟩ := h
    obtain ⟨a1, a2, hx, ha1, ha2⟩ := id hj
    refine ⟨_, (pss_cons (ps_set (i := 1) sc_p_strength_of.nd rfl (by first | exact Or.inl rfl | exact Or.inr rfl) (pe_call (ok_p_volume_of T) hr (by rfl) T.d_p_volume_of.mg T.d_p_volume_of.fn.kp T.d_p_volume_of.b .nil pass0 (pa_cons (pv 0) pa_nil)))
      (pss_cons (ps_if (pt_cmpR (eqDK (K := K) rfl hr.units) (pv 1) (pe_glob (v := .ref T.C_NOUGHT) rfl T.g_NOUGHT rfl) (nomark _)) (pss_one (ps_ret pe_non)) pss_nil)
      (pss_one (ps_ret (pe_call (ok_p_quotient T) (hr.mono (by decide)) (by rfl) T.d_p_quotient.mg T.d_p_quotient.fn.kp T.d_p_quotient.b .nil pass0 (pa_cons (pe_ix (ixT (K := K) rfl) (pv 0) pe_int (fun _ _ => rfl)) (pa_cons (pv 1) pa_nil))))))), ?_⟩
    refine ⟨_, rfl, x, s, w, rfl, hj, za, zb, fun v H1 s1 h1 => ?_⟩
    refine ⟨_, rfl, dq (s + w), .tuple [.int 0, .int 1], .tup h1 (.cons (.int _) (.cons (.int _) .nil)), .tup (T.q_NOUGHT H1) (.cons (.int _) (.cons (.int _) .nil)), rfl, rfl, ?_⟩
    rw [show PyData.eqv (dq (s + w)) (.tuple [.int 0, .int 1]) = decide (s + w = 0) from eqv_pair.trans is_zero]
    refine ⟨_, rfl, ite2 (fun c => ?_) (fun c => ?_)⟩
    · have c1 : s + w = 0 := of_decide_eq_true c
      have e : stren s w = none := if_pos c1
      exact q _ H1 s1 (by rw [e] <;> rfl)
    · have c1 : s + w ≠ 0 := of_decide_eq_false (Bool.eq_false_iff.mpr c)
      have e : stren s w = some (s / (s + w)) := if_neg c1
      refine ⟨_, rfl, x, _, 0, _, rfl, rfl, Same.tup s1 hx, at0, _, rfl, a1, v, s, s + w, rfl, ha1.same s1, h1, za, zv, c1, fun z H2 s2 n2 h2 => ?_⟩
      exact q _ H2 (s1.trans s2) (by rw [e]; exact ⟨z, rfl, h2⟩)

end
end KR
namespace KR
open PySem PySem.Spec PyProof.Rows L2
section
variable {P : Program} {w : World} {K : PySem.W.Frag} {mg : Str → Option Value} {base : Heap}
def sp_m_share (K : PySem.W.Frag) : Sp := fun vs H Q _ => ∃ (x y : Addr) (s w t : Rat), vs = [.ref x, .ref y] ∧ JuQ K H x s w ∧ FrQ K H y t ∧ Big s ∧ Big w ∧ Big t ∧ ∀ z H', Same H H' → JuQ K H' z (s * t) (w * t) → Q (.ref z) H'
theorem ok_p_share_of (T : All K mg) : FnOk P w K mg base CX0 3 T.f_p_share_of T.fd_p_share_of ["juice", "share"] (sp_m_share K) := by
  refine T.d_p_share_of.fn.ok sc_p_share_of (fun vs H Q E h => ?_) (fun cdv A outer s H vs Q E hr h => ?_)
  · obtain ⟨x, y, s, w, t, rfl, _⟩ := h
    rfl
  · obtain ⟨x, y, s, w, t, rfl, ⟨a1, a2, hx, ha1, ha2⟩, hy, za, zb, zc, q⟩ := h
    refine ⟨_, (pss_one (ps_ret (pe_tupI (pa_cons (pe_call (ok_p_product T) hr (by rfl) T.d_p_product.mg T.d_p_product.fn.kp T.d_p_product.b .nil pass0 (pa_cons (pe_ix (ixT (K := K) rfl) (pv 0) pe_int (fun _ _ => rfl)) (pa_cons (pv 1) pa_nil))) (pa_cons (pe_call (ok_p_product T) hr (by rfl) T.d_p_product.mg T.d_p_product.fn.kp T.d_p_product.b .nil pass0 (pa_cons (pe_ix (ixT (K := K) rfl) (pv 0) pe_int (fun _ _ => rfl)) (pa_cons (pv 1) pa_nil))) pa_nil))))), ?_⟩
    refine ⟨_, rfl, x, _, 0, _, rfl, rfl, hx, at0, _, rfl, a1, y, s, t, rfl, ha1, hy, za, zc, trivial, fun z1 H1 s1 n1 h1 => ?_⟩
    refine ⟨_, rfl, x, _, 1, _, rfl, rfl, Same.tup s1 hx, at1, _, rfl, a2, y, w, t, rfl, ha2.same s1, hy.same s1, zb, zc, trivial, fun z2 H2 s2 n2 h2 => ?_⟩
    refine ⟨rfl, fun z H3 s3 n3 h3 => ?_⟩
    exact q z H3 (s1.trans (s2.trans s3)) (.new h3 ((show FrQ K H1 z1 (s * t) from h1).same (s2.trans s3)) ((show FrQ K H2 z2 (w * t) from h2).same s3))

end
end KR
namespace KR
open PySem PySem.Spec PyProof.Rows L2
section
variable {P : Program} {w : World} {K : PySem.W.Frag} {mg : Str → Option Value} {base : Heap}
def sp_m_rest (K : PySem.W.Frag) : Sp := fun vs H Q _ => ∃ (x y : Addr) (s w t : Rat), vs = [.ref x, .ref y] ∧ JuQ K H x s w ∧ FrQ K H y t ∧ Big s ∧ Big w ∧ Big t ∧ Big (1 - t) ∧ ∀ z H', Same H H' → JuQ K H' z (s * (1 - t)) (w * (1 - t)) → Q (.ref z) H'
theorem ok_p_rest_of (T : All K mg) : FnOk P w K mg base CX0 4 T.f_p_rest_of T.fd_p_rest_of ["juice", "share"] (sp_m_rest K) := by
  refine T.d_p_rest_of.fn.ok sc_p_rest_of (fun vs H Q E h => ?_) (fun cdv A outer s H vs Q E hr h => ?_)
  · obtain ⟨x, y, s, w, t, rfl, _⟩ := h
    rfl
  · obtain ⟨x, y, s, w, t, rfl, hx, hy, za, zb, zc, zd, q⟩ := h
    refine ⟨_, (pss_one (ps_ret (pe_call (ok_p_share_of T) hr (by rfl) T.d_p_share_of.mg T.d_p_share_of.fn.kp T.d_p_share_of.b .nil pass0 (pa_cons (pv 0) (pa_cons (pe_call (ok_p_difference T) (hr.mono (by decide)) (by rfl) T.d_p_difference.mg T.d_p_difference.fn.kp T.d_p_difference.b .nil pass0 (pa_cons (pe_glob (v := .ref T.C_ONE) rfl T.g_ONE rfl) (pa_cons (pv 1) pa_nil))) pa_nil))))), ?_⟩
    refine ⟨_, rfl, _, rfl, T.C_ONE, y, 1, t, rfl, T.q_ONE H, hy, Sz.int (z := 1) (by decide) (by decide), zc, trivial, fun z1 H1 s1 n1 h1 => ?_⟩
    exact ⟨x, z1, s, w, 1 - t, rfl, hx.same s1, h1, za, zb, zd, fun z H2 s2 hz => q z H2 (s1.trans s2) hz⟩

end
end KR
namespace KR
open PySem PySem.Spec PyProof.Rows L2
section
variable {P : Program} {w : World} {K : PySem.W.Frag} {mg : Str → Option Value} {base : Heap}
def sp_m_need (K : PySem.W.Frag) (CS : Addr) : Sp := fun vs H Q E => ∃ (a : Addr) (t : Rat), vs = [.ref a] ∧ FrQ K H a t ∧ (¬ ShOk t → Rf CS "NoShare" (.ref a) H E) ∧ (ShOk t → Q .non H)
theorem ok_p_need_share (T : All K mg) : FnOk P w K mg base (L2.CX P w) 3 T.f_p_need_share T.fd_p_need_share ["share"] (sp_m_need K T.C_NoShare) := by
  refine T.d_p_need_share.fn.okX sc_p_need_share (fun vs H Q E h => ?_) (fun cdv A outer s H vs Q E hr h => ?_)
  · obtain ⟨a, t, rfl, _⟩ := h
    rfl
  · obtain ⟨a, t, rfl, ha, w1, w2⟩ := h
    refine ⟨_, (pss_cons (ps_asg (pv 0) (pg_tupK (K := K) rfl rfl (pgs_cons (pg_name (i := 1) sc_p_need_share.nd rfl (by first | exact Or.inl rfl | exact Or.inr rfl)) (pgs_cons (pg_name (i := 2) sc_p_need_share.nd rfl (by first | exact Or.inl rfl | exact Or.inr rfl)) pgs_nil))))
      (pss_one (ps_if (pt_not (pt_chain3 op_lt op_le op_le pe_int (pv 1) (pv 2) (pe_glob (v := .int 12) rfl T.c_MOST_BOTTOM ⟨_, rfl⟩))) (pss_one (ps_raise rfl (takes_of rfl rfl rfl rfl) (pmk_oex T.O_NoShare T.i_NoShare T.tI_NoShare (ok_init_NoShare T) (hr.mono (by decide)) T.bI_NoShare .nil pass0 rfl T.g_NoShare (by exact (pa_cons (pv 0) pa_nil))))) pss_nil))), ?_⟩
    have ha' : SqT K H a [.int t.num, .int (t.den : Int)] := ha
    refine ⟨_, rfl, a, _, rfl, ha', rfl, _, _, rfl, _, _, rfl, rfl, ?_⟩
    have bad : ¬ ShOk t → tMkO T.C_NoShare (sp_initX T.C_NoShare (Str.ofString "NoShare")) [] (tCons (tVar 0) tNil) [some (V.ref a), some (V.int t.num), some (V.int (t.den : Int))] H (fun cls d H' => E cls d H') := fun no => by
      refine ⟨_, rfl, by show 1 ≤ 1000; decide, fun b hb => ⟨b, (.ref a), rfl, upd_same, fun d hd hne => ?_⟩⟩
      rw [upd_ne hne] at hd
      refine ⟨rfl, d, (wh "NoShare" (.ref a)), upd_same, by rw [upd_ne hne, upd_same], hd, ?_⟩
      exact w1 no d _ (raised_keeps (o1 := exo b T.C_NoShare none) (o2 := exd d (wh "NoShare" (.ref a))) (o3 := exo b T.C_NoShare (some d)) (o4 := .xd (wh "NoShare" (.ref a))) hb hd) upd_same
    refine ⟨_, rfl, _, _, rfl, rfl, _, rfl, ?_⟩
    by_cases c1 : (0 : Int) < t.num
    case neg =>
      rw [decide_eq_false c1]
      exact ⟨_, rfl, bad fun z => c1 z.1⟩
    rw [decide_eq_true c1]
    refine ⟨_, rfl, _, _, rfl, rfl, _, rfl, ?_⟩
    by_cases c2 : t.num ≤ (t.den : Int)
    case neg =>
      rw [decide_eq_false c2]
      exact ⟨_, rfl, bad fun z => c2 z.2.1⟩
    rw [decide_eq_true c2]
    refine ⟨_, _, rfl, rfl, _, rfl, ?_⟩
    by_cases c3 : (t.den : Int) ≤ 12
    case neg =>
      rw [decide_eq_false c3]
      exact bad fun z => c3 z.2.2
    rw [decide_eq_true c3]
    exact w2 ⟨c1, c2, c3⟩

end
end KR
namespace KR
open PySem PySem.Spec PyProof.Rows L2
section
variable {P : Program} {w : World} {K : PySem.W.Frag} {mg : Str → Option Value} {base : Heap}
theorem ok_p_need_some (T : All K mg) : FnOk P w K mg base (L2.CX P w) 3 T.f_p_need_some T.fd_p_need_some ["name", "juice"] (sp_need_some K T.C_Empty) := by
  refine T.d_p_need_some.fn.okX sc_p_need_some (fun vs H Q E h => ?_) (fun cdv A outer s H vs Q E hr h => ?_)
  · obtain ⟨v, a, s, w, rfl, _⟩ := h
    rfl
  · obtain ⟨v, a, s, w, rfl, ha, w1, w2⟩ := h
    refine ⟨_, (pss_one (ps_if (pt_cmpR (eqDK (K := K) rfl hr.units) (pv 1) (pe_glob (v := .ref T.C_NOTHING) rfl T.g_NOTHING rfl) (nomark _)) (pss_one (ps_raise rfl (takes_of rfl rfl rfl rfl) (pmk_oex T.O_Empty T.i_Empty T.tI_Empty (ok_init_Empty T) (hr.mono (by decide)) T.bI_Empty .nil pass0 rfl T.g_Empty (by exact (pa_cons (pv 0) pa_nil))))) pss_nil)), ?_⟩
    have e : PyData.eqv (dj s w) (dj 0 0) = decide (s = 0 ∧ w = 0) := by
      show (PyData.eqv (dq s) (dq 0) && (PyData.eqv (dq w) (dq 0) && true)) = _
      rw [eqv_dq, eqv_dq, Bool.and_true, Bool.decide_and]
    refine ⟨_, rfl, dj s w, dj 0 0, ha.dp, (NOTH T.q_NOTHING).dp, rfl, rfl, _, rfl, ?_⟩
    rw [e]
    by_cases c : s = 0 ∧ w = 0
    · rw [decide_eq_true c]
      refine iteT ?_
      refine ⟨_, rfl, by show 1 ≤ 1000; decide, fun b hb => ⟨b, v, rfl, upd_same, fun d hd hne => ?_⟩⟩
      rw [upd_ne hne] at hd
      refine ⟨rfl, d, (wh "Empty" v), upd_same, by rw [upd_ne hne, upd_same], hd, ?_⟩
      exact w1 c d _ (raised_keeps (o1 := exo b T.C_Empty none) (o2 := exd d (wh "Empty" v)) (o3 := exo b T.C_Empty (some d)) (o4 := .xd (wh "Empty" v)) hb hd) upd_same
    · rw [decide_eq_false c]
      exact iteF (w2 c H (Same.refl _))

end
end KR
namespace KR
open PySem PySem.Spec PyProof.Rows L2
section
variable {P : Program} {w : World} {K : PySem.W.Frag} {mg : Str → Option Value} {base : Heap}
theorem ok_p_poured_into (T : All K mg) : FnOk P w K mg base (L2.CX P w) 5 T.f_p_poured_into T.fd_p_poured_into ["name", "room", "juice", "more"] (sp_poured_into K T.C_NoRoom) := by
  refine T.d_p_poured_into.fn.okX sc_p_poured_into (fun vs H Q E h => ?_) (fun cdv A outer s H vs Q E hr h => ?_)
  · obtain ⟨v, r, a, b, s, w, s', w', rfl, _⟩ := h
    rfl
  · obtain ⟨v, r, a, b, s, w, s', w', rfl, ha, hb, z1, z2, z3, z4, z5, z6, z7, z8, w1, w2⟩ := h
    refine ⟨_, (pss_cons (ps_set (i := 4) sc_p_poured_into.nd rfl (by first | exact Or.inl rfl | exact Or.inr rfl) (pe_call (ok_p_mixed T) (hr.mono (by decide)) (by rfl) T.d_p_mixed.mg T.d_p_mixed.fn.kp T.d_p_mixed.b .nil pass0 (pa_cons (pv 2) (pa_cons (pv 3) pa_nil))))
      (pss_cons (ps_if (pt_val (pe_call (ok_p_is_lesser T) (hr.mono (by decide)) (by rfl) T.d_p_is_lesser.mg T.d_p_is_lesser.fn.kp T.d_p_is_lesser.b .nil pass0 (pa_cons (pe_tupI (pa_cons (pv 1) (pa_cons pe_int pa_nil))) (pa_cons (pe_call (ok_p_volume_of T) (hr.mono (by decide)) (by rfl) T.d_p_volume_of.mg T.d_p_volume_of.fn.kp T.d_p_volume_of.b .nil pass0 (pa_cons (pv 4) pa_nil)) pa_nil)))) (pss_one (ps_raise rfl (takes_of rfl rfl rfl rfl) (pmk_oex T.O_NoRoom T.i_NoRoom T.tI_NoRoom (ok_init_NoRoom T) (hr.mono (by decide)) T.bI_NoRoom .nil pass0 rfl T.g_NoRoom (by exact (pa_cons (pv 0) pa_nil))))) pss_nil)
      (pss_one (ps_ret (pv 4))))), ?_⟩
    refine ⟨_, rfl, _, rfl, a, b, s, w, s', w', rfl, ha, hb, z1, z2, z3, z4, fun z H1 s1 h1 => ?_⟩
    refine ⟨_, rfl, rfl, fun tp H2 s2 n2 h2 => ?_⟩
    refine ⟨_, rfl, z, s + s', w + w', rfl, h1.same s2, z5, z6, fun y H3 s3 h3 => ?_⟩
    refine ⟨tp, y, (r : Rat), _, rfl, FrQ.int (s3 _ _ h2), h3, z8, z7, _, rfl, ?_⟩
    have sm := s1.trans (s2.trans s3)
    by_cases c : (r : Rat) < s + s' + (w + w')
    · rw [decide_eq_true c]
      refine iteT ?_
      refine ⟨_, rfl, by show 1 ≤ 1000; decide, fun b hb => ⟨b, v, rfl, upd_same, fun d hd hne => ?_⟩⟩
      rw [upd_ne hne] at hd
      refine ⟨rfl, d, (wh "NoRoom" v), upd_same, by rw [upd_ne hne, upd_same], hd, ?_⟩
      exact w1 c d _ (sm.trans (raised_keeps (o1 := exo b T.C_NoRoom none) (o2 := exd d (wh "NoRoom" v)) (o3 := exo b T.C_NoRoom (some d)) (o4 := .xd (wh "NoRoom" v)) hb hd)) upd_same
    · rw [decide_eq_false c]
      refine iteF ?_
      exact ⟨_, rfl, w2 c z H3 sm (h1.same (s2.trans s3))⟩

end
end KR
namespace KR
open PySem PySem.Spec PyProof.Rows L2
section
variable {P : Program} {w : World} {K : PySem.W.Frag} {mg : Str → Option Value} {base : Heap}
theorem ok_Kettle_init (T : All K mg) : FnOk P w K mg base CX0 1 T.f_Kettle_init T.fd_Kettle_init ["self", "room", "fire", "mark"] (sp_Kettle_init K T.C_Kettle) := by
  refine T.F_Kettle_init.ok sc_Kettle_init (fun vs H Q E h => ?_) (fun cdv A outer s H vs Q E hr h => ?_)
  · obtain ⟨c, dx, r, f, mv, u, rfl, _⟩ := h
    rfl
  · obtain ⟨c, dx, r, f, mv, u, rfl, hc, hd, q⟩ := h
    refine ⟨_, (pss_cons (ps_fld (pv 0) (pv 1) rfl)
      (pss_cons (ps_fld (pv 0) (pv 2) rfl)
      (pss_cons (ps_fld (pv 0) (pv 3) rfl)
      (pss_cons (ps_fld (pv 0) (pe_glob (v := .ref T.C_NOTHING) rfl T.g_NOTHING rfl) rfl)
      (pss_one (ps_fld (pv 0) pe_bl rfl)))))), ?_⟩
    refine ⟨_, rfl, _, rfl, c, T.C_Kettle, dx, [], rfl, hc, T.L_Kettle, T.n_Kettle_room, (by show 0 < 1000; decide), ?_⟩
    refine ⟨_, rfl, _, rfl, c, T.C_Kettle, dx, _, rfl, upd_same, T.L_Kettle, T.n_Kettle_fire, (by show 1 < 1000; decide), ?_⟩
    refine ⟨_, rfl, _, rfl, c, T.C_Kettle, dx, _, rfl, upd_same, T.L_Kettle, T.n_Kettle_mark, (by show 2 < 1000; decide), ?_⟩
    refine ⟨_, rfl, c, T.C_Kettle, dx, _, rfl, upd_same, T.L_Kettle, T.n_Kettle_juice, (by show 3 < 1000; decide), ?_⟩
    refine ⟨_, rfl, c, T.C_Kettle, dx, _, rfl, upd_same, T.L_Kettle, T.n_Kettle_at_work, (by show 4 < 1000; decide), ?_⟩
    have of : Off K (· = c) H _ := (((((Off.refl (K := K) (R := (· = c)) (H := H)).write rfl hc .ins (o2 := (.ins T.C_Kettle dx (putF "room" (.int r) [])))).write rfl hc .ins (o2 := (.ins T.C_Kettle dx (putF "fire" (.int f) (putF "room" (.int r) []))))).write rfl hc .ins (o2 := (.ins T.C_Kettle dx (putF "mark" mv (putF "fire" (.int f) (putF "room" (.int r) [])))))).write rfl hc .ins (o2 := (.ins T.C_Kettle dx (putF "juice" (.ref T.C_NOTHING) (putF "mark" mv (putF "fire" (.int f) (putF "room" (.int r) []))))))).write rfl hc .ins (o2 := (.ins T.C_Kettle dx (kf r f mv (.ref T.C_NOTHING) true)))
    exact q _ ⟨dx, mv, .ref T.C_NOTHING, upd_same, hd.tk of.tk, ⟨_, rfl, NOTH T.q_NOTHING⟩⟩ of

end
end KR
namespace KR
open PySem PySem.Spec PyProof.Rows L2
section
variable {P : Program} {w : World} {K : PySem.W.Frag} {mg : Str → Option Value} {base : Heap}
theorem ok_Kettle_boil (T : All K mg) : FnOk P w K mg base CX0 5 T.f_Kettle_boil T.fd_Kettle_boil ["self", "hours"] (sp_Kettle_boil K T.C_Kettle) := by
  refine T.F_Kettle_boil.ok sc_Kettle_boil (fun vs H Q E h => ?_) (fun cdv A outer s H vs Q E hr h => ?_)
  · obtain ⟨c, k, h, rfl, _⟩ := h
    rfl
  · obtain ⟨c, k, h, rfl, hc, kb, q⟩ := h
    refine ⟨_, (pss_cons (ps_set (i := 2) sc_Kettle_boil.nd rfl (by first | exact Or.inl rfl | exact Or.inr rfl) (pe_ix (ixT (K := K) rfl) (pe_fldK (K := K) rfl (pv 0) rfl) pe_int (fun _ _ => rfl)))
      (pss_cons (ps_fld (pv 0) (pe_call (ok_p_boiled_down T) hr (by rfl) T.d_p_boiled_down.mg T.d_p_boiled_down.fn.kp T.d_p_boiled_down.b .nil pass0 (pa_cons (pe_fldK (K := K) rfl (pv 0) rfl) (pa_cons (pe_fldK (K := K) rfl (pv 0) rfl) (pa_cons (pe_fldK (K := K) rfl (pv 0) rfl) (pa_cons (pe_tupI (pa_cons (pv 1) (pa_cons pe_int pa_nil))) pa_nil))))) rfl)
      (pss_one (ps_ret (pe_call (ok_p_difference T) (hr.mono (by decide)) (by rfl) T.d_p_difference.mg T.d_p_difference.fn.kp T.d_p_difference.b .nil pass0 (pa_cons (pv 2) (pa_cons (pe_ix (ixT (K := K) rfl) (pe_fldK (K := K) rfl (pv 0) rfl) pe_int (fun _ _ => rfl)) pa_nil))))))), ?_⟩
    obtain ⟨dx, mv, jv, h1, ⟨m, rfl, hm⟩, j, rfl, hj⟩ := hc
    obtain ⟨sa, wa, hjj, hs, hw⟩ := id hj
    refine ⟨_, rfl, c, T.C_Kettle, dx, _, _, rfl, h1, T.L_Kettle, T.n_Kettle_juice, rfl, j, _, 1, _, rfl, rfl, hjj, at1, ?_⟩
    refine ⟨_, rfl, c, T.C_Kettle, dx, _, _, rfl, h1, T.L_Kettle, T.n_Kettle_juice, rfl, ?_⟩
    refine ⟨_, rfl, c, T.C_Kettle, dx, _, _, rfl, h1, T.L_Kettle, T.n_Kettle_fire, rfl, ?_⟩
    refine ⟨_, rfl, c, T.C_Kettle, dx, _, _, rfl, h1, T.L_Kettle, T.n_Kettle_mark, rfl, ?_⟩
    refine ⟨_, rfl, rfl, fun hh H1 s1 n1 k1 => ?_⟩
    refine ⟨j, m, hh, k.fire, k.s, k.w, k.mark, ((h : Int) : Rat), rfl, hj.same s1, hm.same s1, FrQ.int k1, kb.s, kb.w, kb.u, kb.hb, kb.l, kb.fh, kb.d, kb.f, kb.u0, fun z H2 s2 hz => ?_⟩
    have s12 := s1.trans s2
    refine ⟨_, rfl, c, T.C_Kettle, dx, _, rfl, s12 _ _ h1, T.L_Kettle, T.n_Kettle_juice, (by show 5 < 1000; decide), ?_⟩
    have of : Off K (· = c) H _ := (Off.same s12).write rfl h1 .ins (o2 := (.ins T.C_Kettle dx (kf k.room k.fire (.ref m) (.ref z) k.on)))
    have o2 : TK K H2 _ := .upd (s12 _ _ h1) (fun _ z => by cases z) (fun _ _ z => by cases z) (o2 := (.ins T.C_Kettle dx (kf k.room k.fire (.ref m) (.ref z) k.on)))
    obtain ⟨sz, wz, hzz, hzs, hzw⟩ := id (hz.tk o2)
    refine ⟨_, rfl, _, rfl, c, T.C_Kettle, dx, _, _, rfl, upd_same, T.L_Kettle, T.n_Kettle_juice, rfl, z, _, 1, _, rfl, rfl, hzz, at1, ?_⟩
    refine ⟨wa, wz, k.w, _, rfl, hw.tk of.tk, hzw, kb.w, kb.b, trivial, fun a H4 s4 n4 h4 => ?_⟩
    exact q a H4 ⟨dx, .ref m, .ref z, s4 _ _ upd_same, ⟨m, rfl, (hm.tk of.tk).same s4⟩, z, rfl, (hz.tk o2).same s4⟩ h4 (of.seq (.same s4))

end
end KR
namespace KR
open PySem PySem.Spec PyProof.Rows L2
section
variable {P : Program} {w : World} {K : PySem.W.Frag} {mg : Str → Option Value} {base : Heap}
theorem eqv_oq {K : PySem.W.Frag} {H : Hp} {v : V} {o : Option Rat} {q : Rat} (h : OQ K H v o) : ∃ d, Dp K H v d ∧ SeqAt.shaped d = true ∧ PyData.eqv d (dq q) = decide (o = some q) := by
  cases o with
  | none =>
    obtain rfl : v = .non := h
    exact ⟨.none, .non, rfl, (decide_eq_false (fun z => by cases z)).symm⟩
  | some p =>
    obtain ⟨x, rfl, hx⟩ := h
    refine ⟨dq p, hx.dp, rfl, ?_⟩
    rw [eqv_dq]
    exact decide_eq_decide.mpr ⟨fun e => by rw [e], fun e => Option.some.inj e⟩
theorem ok_Kettle_is_at_mark (T : All K mg) : FnOk P w K mg base CX0 5 T.f_Kettle_is_at_mark T.fd_Kettle_is_at_mark ["self"] (sp_Kettle_at K T.C_Kettle) := by
  refine T.F_Kettle_is_at_mark.ok sc_Kettle_is_at_mark (fun vs H Q E h => ?_) (fun cdv A outer s H vs Q E hr h => ?_)
  · obtain ⟨c, k, rfl, _⟩ := h
    rfl
  · obtain ⟨c, k, rfl, hc, b1, b2, b3, q⟩ := h
    refine ⟨_, (pss_one (ps_ret (pe_cmpR (eqDK (K := K) rfl hr.units) (pe_call (ok_p_strength_of T) hr (by rfl) T.d_p_strength_of.mg T.d_p_strength_of.fn.kp T.d_p_strength_of.b .nil pass0 (pa_cons (pe_fldK (K := K) rfl (pv 0) rfl) pa_nil)) (pe_fldK (K := K) rfl (pv 0) rfl) (nomark _)))), ?_⟩
    obtain ⟨dx, mv, jv, h1, ⟨m, rfl, hm⟩, j, rfl, hj⟩ := hc
    refine ⟨_, rfl, c, T.C_Kettle, dx, _, _, rfl, h1, T.L_Kettle, T.n_Kettle_juice, rfl, ?_⟩
    refine ⟨j, k.s, k.w, rfl, hj, b1, b2, b3, fun v H1 s1 hv => ?_⟩
    obtain ⟨d, dp, sh, ev⟩ := eqv_oq (q := k.mark) hv
    refine ⟨_, rfl, c, T.C_Kettle, dx, _, _, rfl, s1 _ _ h1, T.L_Kettle, T.n_Kettle_mark, rfl, d, dq k.mark, dp, (hm.same s1).dp, sh, rfl, ?_⟩
    rw [ev]
    exact q H1 s1

end
end KR
namespace KR
open PySem PySem.Spec PyProof.Rows L2
section
variable {P : Program} {w : World} {K : PySem.W.Frag} {mg : Str → Option Value} {base : Heap}
theorem ok_Kettle_hours_to_mark (T : All K mg) : FnOk P w K mg base CX0 5 T.f_Kettle_hours_to_mark T.fd_Kettle_hours_to_mark ["self"] (sp_Kettle_hours K T.C_Kettle) := by
  refine T.F_Kettle_hours_to_mark.ok sc_Kettle_hours_to_mark (fun vs H Q E h => ?_) (fun cdv A outer s H vs Q E hr h => ?_)
  · obtain ⟨c, k, rfl, _⟩ := h
    rfl
  · obtain ⟨c, k, rfl, hc, b1, b2, b3, b4, b5, hf, u0, q⟩ := h
    refine ⟨_, (pss_cons (ps_set (i := 1) sc_Kettle_hours_to_mark.nd rfl (by first | exact Or.inl rfl | exact Or.inr rfl) (pe_ifExp (pt_val (pe_fldK (K := K) rfl (pv 0) rfl)) (pe_fldK (K := K) rfl (pv 0) rfl) pe_int))
      (pss_one (ps_ret (pe_call (ok_p_ready_in T) hr (by rfl) T.d_p_ready_in.mg T.d_p_ready_in.fn.kp T.d_p_ready_in.b .nil pass0 (pa_cons (pe_fldK (K := K) rfl (pv 0) rfl) (pa_cons (pv 1) (pa_cons (pe_fldK (K := K) rfl (pv 0) rfl) pa_nil))))))), ?_⟩
    obtain ⟨dx, mv, jv, h1, ⟨m, rfl, hm⟩, j, rfl, hj⟩ := hc
    have tail : ∀ (f : Int), f = (if k.on = true then k.fire else 0) → ∀ {Q' : VK}, (∀ v H', Same H H' → OQ K H' v (rdy k) → Q' v H') → sp_wready K [.ref j, .int f, .ref m] H Q' E0 := fun f e Q' q' => by
      refine ⟨j, m, f, k.s, k.w, k.mark, rfl, hj, hm, b1, b2, b3, b4, b5, ?_, u0, fun v H' s' hv => q' v H' s' ?_⟩
      · rw [e]
        split
        · exact hf
        · decide
      · rw [e] at hv
        exact hv
    refine ⟨_, rfl, c, T.C_Kettle, dx, _, _, rfl, h1, T.L_Kettle, T.n_Kettle_at_work, rfl, k.on, rfl, ?_⟩
    cases ho : k.on with
    | true =>
      refine iteT ?_
      refine ⟨_, rfl, c, T.C_Kettle, dx, _, _, rfl, h1, T.L_Kettle, T.n_Kettle_fire, rfl, ?_⟩
      refine ⟨_, rfl, c, T.C_Kettle, dx, _, _, rfl, h1, T.L_Kettle, T.n_Kettle_juice, rfl, ?_⟩
      refine ⟨_, rfl, _, rfl, c, T.C_Kettle, dx, _, _, rfl, h1, T.L_Kettle, T.n_Kettle_mark, rfl, ?_⟩
      exact tail k.fire (by rw [ho] <;> rfl) fun v H' s' hv => q v H' s' hv
    | false =>
      refine iteF ?_
      refine ⟨_, rfl, c, T.C_Kettle, dx, _, _, rfl, h1, T.L_Kettle, T.n_Kettle_juice, rfl, ?_⟩
      refine ⟨_, rfl, _, rfl, c, T.C_Kettle, dx, _, _, rfl, h1, T.L_Kettle, T.n_Kettle_mark, rfl, ?_⟩
      exact tail 0 (by rw [ho] <;> rfl) fun v H' s' hv => q v H' s' hv

end
end KR
namespace KR
open PySem PySem.Spec PyProof.Rows L2
section
variable {P : Program} {w : World} {K : PySem.W.Frag} {mg : Str → Option Value} {base : Heap}
theorem ok_SameRow_init (T : All K mg) : FnOk P w K mg base CX0 1 T.f_SameRow_init T.fd_SameRow_init ["self", "row"] (sp_SameRow_init T.C_SameRow T.C_Row) := by
  refine T.F_SameRow_init.ok sc_SameRow_init (fun vs H Q E h => ?_) (fun cdv A outer s H vs Q E hr h => ?_)
  · obtain ⟨x, dx, r, dr, k, m, rfl, _⟩ := h
    rfl
  · obtain ⟨x, dx, r, dr, k, m, rfl, hx, hrr, q⟩ := h
    refine ⟨_, (pss_cons (ps_fld (pv 0) (pe_fldK (K := K) rfl (pv 1) rfl) rfl)
      (pss_one (ps_fld (pv 0) (pe_fldK (K := K) rfl (pv 1) rfl) rfl))), ?_⟩
    have ne : r ≠ x := ne_of hrr hx (fun z => by have y := (HO.ins.inj z).2.2; cases y)
    refine ⟨_, rfl, r, T.C_Row, dr, _, _, rfl, hrr, T.L_Row, T.n_Row_kettles, rfl, _, rfl, x, T.C_SameRow, dx, [], rfl, hx, T.L_SameRow, T.n_SameRow_kettles, (by show 0 < 1000; decide), ?_⟩
    refine ⟨_, rfl, r, T.C_Row, dr, _, _, rfl, (by rw [upd_ne ne]; exact hrr), T.L_Row, T.n_Row_moulds, rfl, _, rfl, x, T.C_SameRow, dx, _, rfl, upd_same, T.L_SameRow, T.n_SameRow_moulds, (by show 1 < 1000; decide), ?_⟩
    exact q _ (Fr.put (Fr.put .refl)) ⟨_, upd_same, .ins⟩

end
end KR
namespace KR
open PySem PySem.Spec PyProof.Rows L2
section
variable {P : Program} {w : World} {K : PySem.W.Frag} {mg : Str → Option Value} {base : Heap}
theorem ok_Kettles_init (T : All K mg) : FnOk P w K mg base CX0 4 T.f_Kettles_init T.fd_Kettles_init ["self", "row"] (sp_Kettles_init K T.C_Kettles T.C_Kettle T.C_Row) := by
  refine T.F_Kettles_init.ok sc_Kettles_init (fun vs H Q E h => ?_) (fun cdv A outer s H vs Q E hr h => ?_)
  · obtain ⟨p, dx, r, dr, k, m, xs, rs, rfl, _⟩ := h
    rfl
  · obtain ⟨p, dx, r, dr, k, m, xs, rs, rfl, hp, hrr, hm, len, hx, nd, l9, q⟩ := h
    refine ⟨_, (pss_cons (ps_fld (pv 0) (pe_make T.M_SameRow (ok_SameRow_init T) (hr.mono (by decide)) (by rfl) T.g_SameRow T.b_SameRow_init .nil pass0 (pa_cons (pv 1) pa_nil)) rfl)
      (pss_cons (ps_fld (pv 0) (pe_dc (own := [("name", 2), ("room", 3), ("fire", 4), ("mark", 5)]) (g := gTup K 4 (gCons (gName 2) (gCons (gName 3) (gCons (gName 4) (gCons (gName 5) gNil))))) (tt := tYes) (by rfl) sc_Kettles_init.nd (pi_tupK (K := K) rfl (pe_fldK (K := K) rfl (pv 1) rfl)) (blkOk_by (own := [("name", 2), ("room", 3), ("fire", 4), ("mark", 5)]) (N := ["self", "row", "name", "room", "fire", "mark"]) (sc := defScope s_Kettles_init) (by decide +kernel)) (fun _ _ _ _ _ => (pg_tupK (K := K) rfl rfl (pgs_cons (pg_name (i := 2) sc_Kettles_init.nd rfl (by first | exact Or.inl rfl | exact Or.inr rfl)) (pgs_cons (pg_name (i := 3) sc_Kettles_init.nd rfl (by first | exact Or.inl rfl | exact Or.inr rfl)) (pgs_cons (pg_name (i := 4) sc_Kettles_init.nd rfl (by first | exact Or.inl rfl | exact Or.inr rfl)) (pgs_cons (pg_name (i := 5) sc_Kettles_init.nd rfl (by first | exact Or.inl rfl | exact Or.inr rfl)) pgs_nil)))))) (fun _ _ _ _ _ => pts_nil) (fun _ _ _ _ _ => (pv 2)) (fun _ _ _ _ _ => (pe_make T.M_Kettle (ok_Kettle_init T) (hr.mono (by decide)) (by rfl) T.g_Kettle T.b_Kettle_init .nil pass0 (pa_cons (pv 3) (pa_cons (pv 4) (pa_cons (pv 5) pa_nil)))))) rfl)
      (pss_cons (ps_fld (pv 0) pe_int rfl)
      (pss_one (ps_fld (pv 0) (pe_glob (v := .ref T.C_NOUGHT) rfl T.g_NOUGHT rfl) rfl))))), ?_⟩
    have nrp : r ≠ p := ne_of hrr hp (fun z => by have y := (HO.ins.inj z).2.2; cases y)
    refine ⟨_, rfl, fun a da na nda ne => ?_⟩
    have s1 : Same H (upd (upd H da (.own a)) a (.ins T.C_SameRow da [])) := make_same na nda
    refine ⟨a, da, r, dr, k, m, rfl, upd_same, s1 _ _ hrr, fun H2 f2 hch => ⟨rfl, ?_⟩⟩
    have s2 : Same H H2 := fun b o e => f2 b o (ne_of_none e na) (s1 _ _ e)
    refine ⟨_, rfl, p, T.C_Kettles, dx, [], rfl, s2 _ _ hp, T.L_Kettles, T.n_Kettles__row, (by show 0 < 1000; decide), ?_⟩
    have o3 : Off K (· = p) H (upd H2 p (.ins T.C_Kettles dx [("_row", .ref a)])) := (Off.same s2).write rfl hp .ins
    have hp3 : (upd H2 p (.ins T.C_Kettles dx [("_row", .ref a)])) p = some (.ins T.C_Kettles dx [("_row", .ref a)]) := upd_same
    change (tSeq _ _) _ _ (upd H2 p (.ins T.C_Kettles dx [("_row", .ref a)]))
    generalize upd H2 p (.ins T.C_Kettles dx [("_row", .ref a)]) = J at o3 hp3
    refine ⟨_, rfl, r, T.C_Row, dr, _, _, rfl, o3.ins nrp hrr, T.L_Row, T.n_Row_kettles, rfl, k, rfl, ⟨_, o3.tk _ _ hm⟩, fun D hD => ?_⟩
    have hx3 : ∀ (i : Nat) (v : V) (z : RK), xs[i]? = some v → rs[i]? = some z → RkAt K J v z := fun i v z a b => (hx i v z a b).tk o3.tk
    refine dc_tup (K := K) (a := k) (xs := xs) (fun i H' => ∃ (c : Str → Addr) (st : Str → Ke), Off K (fun _ => False) J H' ∧ H' D = some (.dK (byK kN ((rs.map (·.1)).take i) fun x => .ref (c x))) ∧
      (∀ x ∈ (rs.map (·.1)).take i, KCell K T.C_Kettle H' (c x) (st x) ∧ Nw J (c x)) ∧ (∀ x ∈ (rs.map (·.1)).take i, ∀ y ∈ (rs.map (·.1)).take i, c x = c y → x = y) ∧ KtOf st (rs.take i))
      ⟨fun _ => 0, fun _ => ke0 0 0 0, .new hD, upd_same, fun x hx => absurd hx List.not_mem_nil, fun x hx => absurd hx List.not_mem_nil, fun x hx => absurd hx List.not_mem_nil⟩
      (fun i H' _ ⟨_, _, oJ, _⟩ => oJ.tk _ _ (o3.tk _ _ hm)) (fun i v H' hi w => ?_) ?_
    · obtain ⟨c, st, oJ, hd, hc, ci, so⟩ := w
      have hi2 := (List.getElem?_eq_some_iff.mp hi).1
      obtain ⟨z, hz⟩ : ∃ z, rs[i]? = some z := ⟨_, List.getElem?_eq_getElem (by omega)⟩
      obtain ⟨t, dv, rfl, ht, hdv⟩ := (hx3 i v z hi hz).tk oJ.tk
      have hnz : (rs.map (·.1))[i]? = some z.1 := by rw [List.getElem?_map, hz] <;> rfl
      have notin : z.1 ∉ (rs.map (·.1)).take i := fun h => by
        have nd2 : ((rs.map (·.1)).take (i + 1)).Nodup := (List.take_sublist _ _).nodup nd
        rw [take_one hnz, List.nodup_append] at nd2
        exact nd2.2.2 _ h _ (List.mem_singleton.mpr rfl) rfl
      refine ⟨t, _, rfl, ht, rfl, _, _, rfl, _, _, rfl, _, _, rfl, _, _, rfl, rfl, rfl, yesT ?_⟩
      refine ⟨_, rfl, _, rfl, _, rfl, _, rfl, fun c2 dc n1 n2 ne2 => ?_⟩
      have o4 : Off K (· = D) H' (upd (upd H' dc (.own c2)) c2 (.ins T.C_Kettle dc [])) := (Off.refl.fresh n2).fresh n1
      have c2D : c2 ≠ D := (ne_of_none hd n1).symm
      have hd4 : (upd (upd H' dc (.own c2)) c2 (.ins T.C_Kettle dc [])) D = some (.dK (byK kN ((rs.map (·.1)).take i) fun x => .ref (c x))) := (by rw [upd_ne c2D.symm, upd_ne (ne_of_none hd n2)]; exact hd)
      refine ⟨c2, dc, z.2.1, z.2.2.1, dv, z.2.2.2, rfl, upd_same, hdv.tk o4.tk, fun H5 hc5 o5 => ⟨rfl, ?_⟩⟩
      generalize upd (upd H' dc (.own c2)) c2 (.ins T.C_Kettle dc []) = H4 at o4 hd4 o5
      have hd5 := o5.dK c2D.symm hd4
      have o15 : Off K (· = D) H' H5 := o4.trans o5 fun b e => .inr (.of (by rw [e]; exact n1))
      have e6 : putK (byK kN ((rs.map (·.1)).take i) fun x => V.ref (c x)) (kN z.1) (.ref c2) = byK kN ((rs.map (·.1)).take (i + 1)) fun x => .ref (set1 c z.1 c2 x) := by
        rw [byK_put kN_inj, take_one hnz]
        unfold addK
        rw [if_neg notin]
        refine byK_congr fun y _ => ?_
        show set1 (fun x => V.ref (c x)) z.1 (.ref c2) y = .ref (set1 c z.1 c2 y)
        by_cases e : y = z.1
        · rw [e, set1_same, set1_same]
        · rw [set1_ne e, set1_ne e]
      refine ⟨_, kN z.1, rfl, hd5, by rw [byK_len, List.length_take]; exact small' (by omega), ?_⟩
      rw [e6]
      have o6 : Off K (· = D) H' (upd H5 D (.dK (byK kN ((rs.map (·.1)).take (i + 1)) fun x => .ref (set1 c z.1 c2 x)))) := o15.write rfl hd .dK
      have o56 : Off K (· = D) H5 (upd H5 D (.dK (byK kN ((rs.map (·.1)).take (i + 1)) fun x => .ref (set1 c z.1 c2 x)))) := .put hd5 .dK rfl
      have nJ : ∀ b, Nw H' b → Nw J b := fun b k => Nw.back oJ id k
      have hc6 : KCell K T.C_Kettle (upd H5 D (.dK (byK kN ((rs.map (·.1)).take (i + 1)) fun x => .ref (set1 c z.1 c2 x)))) c2 (ke0 z.2.1 z.2.2.1 z.2.2.2) := hc5.off o56 c2D
      have c2n : ∀ y ∈ (rs.map (·.1)).take i, c2 ≠ c y := fun y hy => by
        obtain ⟨⟨dx9, dv9, jv9, k9, _⟩, _⟩ := hc y hy
        exact (Nw.of n1).ne k9 .ins
      have mem : ∀ y, y ∈ (rs.map (·.1)).take (i + 1) → y = z.1 ∨ (y ≠ z.1 ∧ y ∈ (rs.map (·.1)).take i) := fun y hy => by
        rw [take_one hnz] at hy
        rcases List.mem_append.mp hy with h | h
        · exact .inr ⟨fun e => notin (e ▸ h), h⟩
        · exact .inl (List.mem_singleton.mp h)
      refine ⟨set1 c z.1 c2, set1 st z.1 (ke0 z.2.1 z.2.2.1 z.2.2.2), oJ.trans o6 (fun b e => .inr (.of (by rw [e]; exact hD))), upd_same, fun y hy => ?_, fun y hy u hu e => ?_, fun y hy => ?_⟩
      · rcases mem y hy with h | ⟨h, hm'⟩
        · rw [h, set1_same, set1_same]
          exact ⟨hc6, nJ _ (.of n1)⟩
        · rw [set1_ne h, set1_ne h]
          obtain ⟨q1, q2⟩ := hc y hm'
          refine ⟨q1.off o6 (fun e => ?_), q2⟩
          obtain ⟨dx9, dv9, jv9, k9, _⟩ := q1
          rw [e, hd] at k9
          cases k9
      · rcases mem y hy with h | ⟨h, hm'⟩
        · rcases mem u hu with h' | ⟨h', hm''⟩
          · rw [h, h']
          · rw [h, set1_same, set1_ne h'] at e
            exact absurd e (c2n u hm'')
        · rcases mem u hu with h' | ⟨h', hm''⟩
          · rw [h', set1_same, set1_ne h] at e
            exact absurd e.symm (c2n y hm')
          · rw [set1_ne h, set1_ne h'] at e
            exact ci y hm' u hm'' e
      · rw [take_one hz] at hy
        rcases List.mem_append.mp hy with h | h
        · have hn : y.1 ≠ z.1 := fun e => notin (by rw [← e, ← List.map_take]; exact List.mem_map.mpr ⟨y, h, rfl⟩)
          rw [set1_ne hn]
          exact so y h
        · rw [List.mem_singleton.mp h, set1_same]
    · rintro H4 ⟨c, st, oJ, hd, hc, ci, so⟩
      rw [len, List.take_length] at so
      rw [show (rs.map (·.1)).take xs.length = rs.map (·.1) from List.take_of_length_le (by rw [List.length_map, len]; exact Nat.le_refl _)] at hd hc ci
      have hp4 := oJ.ins id hp3
      refine ⟨_, rfl, p, T.C_Kettles, dx, _, rfl, hp4, T.L_Kettles, T.n_Kettles__table, (by show 1 < 1000; decide), ?_⟩
      refine ⟨_, rfl, p, T.C_Kettles, dx, _, rfl, upd_same, T.L_Kettles, T.n_Kettles__hour, (by show 2 < 1000; decide), ?_⟩
      refine ⟨_, rfl, p, T.C_Kettles, dx, _, rfl, upd_same, T.L_Kettles, T.n_Kettles__boiled, (by show 3 < 1000; decide), ?_⟩
      have o48 : Off K (· = p) H4 _ := ((((Off.refl (K := K) (R := (· = p)) (H := H4)).write rfl hp4 .ins (o2 := .ins T.C_Kettles dx [("_row", .ref a), ("_table", .ref D)])).write rfl hp4 .ins (o2 := .ins T.C_Kettles dx [("_row", .ref a), ("_table", .ref D), ("_hour", .int 0)]))).write rfl hp4 .ins (o2 := .ins T.C_Kettles dx (kfs (.ref a) D 0 (.ref T.C_NOUGHT)))
      have o08 : Off K (· = p) H _ := (o3.trans oJ fun _ h => h.elim).seq o48
      have cp : ∀ x ∈ rs.map (·.1), c x ≠ p := fun x hx => (hc x hx).2.ne hp3 .ins
      have Dp : D ≠ p := (ne_of_none hp3 hD).symm
      have nH : ∀ b, b ≠ p → Nw J b → Nw H b := fun b n k => Nw.back o3 n k
      refine q ⟨p, D, c⟩ st _ rfl ⟨⟨dx, .ref a, .ref T.C_NOUGHT, upd_same, _, rfl, (show FrQ K _ T.C_NOUGHT 0 from T.q_NOUGHT _)⟩, o48.dK Dp hd, fun x hx => (hc x hx).1.off o48 (cp x hx), ci, cp⟩ so o08 (fun b hb => ?_)
      rcases hb with (h | ⟨x, hx, h⟩) | h
      · exact .inl h
      · exact .inr (by rw [h]; exact nH _ (cp x hx) (hc x hx).2)
      · exact .inr (by rw [h]; exact nH _ Dp (.of hD))

end
end KR
namespace KR
open PySem PySem.Spec PyProof.Rows L2
section
variable {P : Program} {w : World} {K : PySem.W.Frag} {mg : Str → Option Value} {base : Heap}
theorem ok_Kettles__named (T : All K mg) : FnOk P w K mg base (L2.CX P w) 3 T.f_Kettles__named T.fd_Kettles__named ["self", "name"] (sp_Kettles_named K T.C_Kettles T.C_Kettle T.C_NoKettle) := by
  refine T.F_Kettles__named.okX sc_Kettles__named (fun vs H Q E h => ?_) (fun cdv A outer s H vs Q E hr h => ?_)
  · obtain ⟨A, nms, S, x, rfl, _⟩ := h
    rfl
  · obtain ⟨Ad, nms, S, x, rfl, hk, w1, w2⟩ := h
    refine ⟨_, (pss_cons (ps_if (PW.pt (pw_or (pt_not (pt_val (pe_callB (isiK (K := K) rfl) (by rfl) T.b_isinstance (by decide +kernel) (pa_cons (pv 1) (pa_cons (pe_bltn (v := .ty "str") (by rfl) T.b_str (by decide +kernel) rfl) pa_nil))))) (pw_or1 (pt_cmp (pc_dnotin (hu_of hr) (pv 1) (pe_fldK (K := K) rfl (pv 0) rfl)) (by with_unfolding_all rfl))))) (pss_one (ps_raise rfl (takes_of rfl rfl rfl rfl) (pmk_oex T.O_NoKettle T.i_NoKettle T.tI_NoKettle (ok_init_NoKettle T) (hr.mono (by decide)) T.bI_NoKettle .nil pass0 rfl T.g_NoKettle (by exact (pa_cons (pv 1) pa_nil))))) pss_nil)
      (pss_one (ps_ret (pe_dget (hu_of hr) (pe_fldK (K := K) rfl (pv 0) rfl) (pv 1) (fun _ _ => rfl))))), ?_⟩
    obtain ⟨dx, rv, bv, hp, _⟩ := hk.p
    have ht := hk.t
    refine ⟨_, rfl, _, _, _, _, _, rfl, .ty _, .base (.str x), kit_ty (show kitB "str" "str" = some true by decide +kernel), _, rfl, ?_⟩
    refine iteF ?_
    refine ⟨_, rfl, _, rfl, Ad.p, T.C_Kettles, dx, _, _, rfl, hp, T.L_Kettles, T.n_Kettles__table, rfl, ?_⟩
    by_cases hx : x ∈ nms
    · refine ⟨Ad.t, some _, rfl, dget_n (.inl ht) hx, _, rfl, iteF ?_⟩
      exact ⟨_, rfl, Ad.p, T.C_Kettles, dx, _, _, rfl, hp, T.L_Kettles, T.n_Kettles__table, rfl, _, rfl, Ad.t, _, rfl, dget_n (.inl ht) hx, w2 hx⟩
    · refine ⟨Ad.t, none, rfl, dget_n0 (.inl ht) hx, _, rfl, iteT ?_⟩
      refine ⟨_, rfl, by show 1 ≤ 1000; decide, fun b hb => ⟨b, .str x, rfl, upd_same, fun d hd hne => ?_⟩⟩
      rw [upd_ne hne] at hd
      refine ⟨rfl, d, (wh "NoKettle" (.str x)), upd_same, by rw [upd_ne hne, upd_same], hd, ?_⟩
      exact w1 hx d _ (raised_keeps (o1 := exo b T.C_NoKettle none) (o2 := exd d (wh "NoKettle" (.str x))) (o3 := exo b T.C_NoKettle (some d)) (o4 := .xd (wh "NoKettle" (.str x))) hb hd) upd_same

end
end KR
namespace KR
open PySem PySem.Spec PyProof.Rows L2
section
variable {P : Program} {w : World} {K : PySem.W.Frag} {mg : Str → Option Value} {base : Heap}
theorem ok_Kettles_boil_on (T : All K mg) : FnOk P w K mg base CX0 6 T.f_Kettles_boil_on T.fd_Kettles_boil_on ["self", "hours"] (sp_Kettles_boil_on K T.C_Kettles T.C_Kettle) := by
  refine T.F_Kettles_boil_on.ok sc_Kettles_boil_on (fun vs H Q E h => ?_) (fun cdv A outer s H vs Q E hr h => ?_)
  · obtain ⟨A, nms, S, h, rfl, _⟩ := h
    rfl
  · obtain ⟨Ad, nms, S, h, rfl, hk, nd, kbg, gb, q⟩ := h
    refine ⟨_, (pss_cons (ps_fldaug (pv 0) (pv 1) in_add)
      (pss_one (ps_lock (ps_for PassesOwn.never rfl (pi_values (pe_fldK (K := K) rfl (pv 0) rfl)) (pg_name (i := 2) sc_Kettles_boil_on.nd rfl (by first | exact Or.inl rfl | exact Or.inr rfl)) (pss_one (ps_if (pt_val (pe_fldK (K := K) rfl (pv 2) rfl)) (pss_one (ps_fld (pv 0) (pe_call (ok_p_sum_of T) (hr.mono (by decide)) (by rfl) T.d_p_sum_of.mg T.d_p_sum_of.fn.kp T.d_p_sum_of.b .nil pass0 (pa_cons (pe_fldK (K := K) rfl (pv 0) rfl) (pa_cons (pe_meth (pv 2) T.L_Kettle T.m_Kettle_boil (ok_Kettle_boil T) hr T.b_Kettle_boil .nil pass0 (pa_cons (pv 1) pa_nil)) pa_nil))) rfl)) pss_nil)))))), ?_⟩
    obtain ⟨dx, rv, bv, hp, b0, rfl, hb0⟩ := hk.p
    refine ⟨_, rfl, Ad.p, T.C_Kettles, dx, _, _, rfl, hp, T.L_Kettles, T.n_Kettles__hour, rfl, _, rfl, _, _, rfl, rfl, dx, _, hp, (by show 4 < 1000; decide), ?_⟩
    have of1 : Off K (· = Ad.p) H _ := .put hp .ins rfl (o2 := .ins T.C_Kettles dx (kfs rv Ad.t (S.hour + h : Int) (.ref b0)))
    have ht1 := of1.dK hk.tp hk.t
    refine ⟨Ad.t, _, ht1, trivial, fun od => ?_⟩
    generalize eL : upd _ Ad.t (HO.frz od _) = L
    have gL : L Ad.t = some (.frz od (.dK (byK kN nms fun x => .ref (Ad.c x)))) := by rw [← eL]; exact upd_same
    have tL : TK K H L := of1.tk.trans (by rw [← eL]; exact tk_lock ht1)
    have pL : L Ad.p = some (.ins T.C_Kettles dx (kfs rv Ad.t ((S.hour + h : Nat) : Int) (.ref b0))) := by
      rw [← eL, upd_ne hk.tp.symm]
      exact upd_same
    have cL : ∀ x ∈ nms, KCell K T.C_Kettle L (Ad.c x) (S.st x) := fun x hx => by
      obtain ⟨dc, mv, jv, k1, k2, k3⟩ := hk.cell x hx
      refine ⟨dc, mv, jv, ?_, k2.tk tL, k3.tk tL⟩
      rw [← eL, upd_ne (hk.tc hx).symm]
      exact of1.ins (hk.cp x hx) k1
    refine ⟨_, rfl, Ad.p, T.C_Kettles, dx, _, _, rfl, pL, T.L_Kettles, T.n_Kettles__table, rfl, Ad.t, od, _, rfl, gL, ?_⟩
    refine for_vals (fun i σ H' => ∃ (x2 : Option V) (bi : Addr) (dp : Addr), σ = [some (.ref Ad.p), some (.int h), x2] ∧ H' Ad.t = some (.frz od (.dK (byK kN nms fun x => .ref (Ad.c x)))) ∧ H' Ad.p = some (.ins T.C_Kettles dp (kfs rv Ad.t ((S.hour + h : Nat) : Int) (.ref bi))) ∧ FrQ K H' bi (goff h S.st (nms.take i) S.gone) ∧ (∀ x ∈ nms, KCell K T.C_Kettle H' (Ad.c x) (if x ∈ nms.take i then kb h (S.st x) else S.st x)) ∧ Off K (Ad.R nms) L H') ⟨none, b0, dx, rfl, gL, pL, hb0.tk tL, fun x hx => cL x hx, .refl⟩ (fun i σ H' _ ⟨_, _, _, _, g, _⟩ => g) ?_ ?_
    · rintro i k v σ H' hi ⟨x2, bi, dp, rfl, g1, p1, f1, c1, o1⟩
      obtain ⟨x, hx, e⟩ := byK_get hi
      cases e
      have hxm := List.mem_of_getElem? hx
      have il := (List.getElem?_eq_some_iff.mp hx).1
      have nx : x ∉ nms.take i := fun z => by
        have nd2 : (nms.take (i + 1)).Nodup := (List.take_sublist _ _).nodup nd
        rw [take_one hx, List.nodup_append] at nd2
        exact nd2.2.2 _ z _ (List.mem_singleton.mpr rfl) rfl
      have cx := c1 x hxm
      rw [if_neg nx] at cx
      obtain ⟨dc, mv, jv, k1, k2, k3⟩ := id cx
      refine ⟨_, rfl, Ad.c x, T.C_Kettle, dc, _, _, rfl, k1, T.L_Kettle, T.n_Kettle_at_work, rfl, _, rfl, ?_⟩
      have mem : ∀ y, y ∈ nms.take (i + 1) ↔ y ∈ nms.take i ∨ y = x := fun y => by rw [take_one hx, List.mem_append, List.mem_singleton]
      cases ho : (S.st x).on with
      | false =>
        have ek : kb h (S.st x) = S.st x := if_neg (by rw [ho]; decide)
        refine ⟨_, bi, dp, rfl, g1, p1, ?_, fun y hy => ?_, o1⟩
        · rw [goff_take hx, ek, show (S.st x).w - (S.st x).w = 0 by grind, Rat.add_zero]
          exact f1
        · by_cases e : y = x
          · rw [if_pos ((mem y).mpr (.inr e)), e, ek]
            exact cx
          · have := c1 y hy
            by_cases z : y ∈ nms.take i
            · rw [if_pos z] at this
              rw [if_pos ((mem y).mpr (.inl z))]
              exact this
            · rw [if_neg z] at this
              rw [if_neg (fun q => (((mem y).mp q).elim z e))]
              exact this
      | true =>
        have ek : kb h (S.st x) = { S.st x with w := boil (S.st x).s (S.st x).w (S.st x).fire (S.st x).mark ((h : Int) : Rat) } := if_pos ho
        have ew : (kb h (S.st x)).w = boil (S.st x).s (S.st x).w (S.st x).fire (S.st x).mark ((h : Int) : Rat) := by rw [ek]
        have kg := kbg x hxm
        refine ⟨_, rfl, Ad.p, T.C_Kettles, dp, _, _, rfl, p1, T.L_Kettles, T.n_Kettles__boiled, rfl, ?_⟩
        refine ⟨_, rfl, Ad.c x, dc, _, rfl, k1, rfl, _, rfl, Ad.c x, S.st x, h, rfl, cx, kg, fun a H2 kc2 fr2 o2 => ?_⟩
        have pc : Ad.p ≠ Ad.c x := (hk.cp x hxm).symm
        have p2 := o2.ins pc p1
        refine ⟨bi, a, _, _, rfl, f1.tk o2.tk, fr2, gb i (by omega), kg.g, trivial, fun z H3 s3 n3 h3 => ?_⟩
        have p3 := s3 _ _ p2
        refine ⟨_, rfl, Ad.p, T.C_Kettles, dp, _, rfl, p3, T.L_Kettles, T.n_Kettles__boiled, (by show 4 < 1000; decide), ?_⟩
        have op : Off K (· = Ad.p) H3 _ := .put p3 .ins rfl (o2 := .ins T.C_Kettles dp (kfs rv Ad.t ((S.hour + h : Nat) : Int) (.ref z)))
        have oall : Off K (Ad.R nms) H' _ := ((o2.mono (R2 := Ad.R nms) fun a e => .inr ⟨x, hxm, e⟩).seq (.same s3)).seq (op.mono fun a e => .inl e)
        have ntR : ¬ Ad.R nms Ad.t := fun z => z.elim hk.tp fun ⟨y, hy, e⟩ => hk.tc hy e
        refine ⟨_, z, dp, rfl, oall.keep _ _ ntR g1 nofun, upd_same, ?_, fun y hy => ?_, o1.seq oall⟩
        · rw [goff_take hx, ew]
          exact (show FrQ K H3 z _ from h3).tk op.tk
        · by_cases e : y = x
          · rw [if_pos ((mem y).mpr (.inr e)), e, ek]
            exact (kc2.off (R := fun _ => False) (.same s3) id).off op (hk.cp x hxm)
          · have k := c1 y hy
            have ne : ¬ (Ad.c y = Ad.c x) := fun z => e (hk.ci y hy x hxm z)
            have k' := ((k.off o2 ne).off (R := fun _ => False) (.same s3) id).off op (hk.cp y hy)
            by_cases z : y ∈ nms.take i
            · rw [if_pos z] at k'
              rw [if_pos ((mem y).mpr (.inl z))]
              exact k'
            · rw [if_neg z] at k'
              rw [if_neg (fun q => (((mem y).mp q).elim z e))]
              exact k'
    · rintro σ H' ⟨x2, bi, dp, rfl, g1, p1, f1, c1, o1⟩
      rw [byK_len, List.take_length] at f1 c1
      refine ⟨g1, ?_⟩
      have tU : TK K H' (upd H' Ad.t (.dK (byK kN nms fun x => .ref (Ad.c x)))) := tk_unlock g1
      have ofR : Off K (Ad.R nms) H (upd H' Ad.t (.dK (byK kN nms fun x => .ref (Ad.c x)))) := by
        have a1 := of1.mono (R2 := Ad.R nms) fun a e => .inl e
        refine ⟨fun b o nb e nt => ?_, fun b gb => ?_, of1.tk.trans ((by rw [← eL]; exact tk_lock ht1 : TK K _ L).trans (o1.tk.trans tU))⟩
        · by_cases c : b = Ad.t
          · rw [c, upd_same]
            rw [c, hk.t] at e
            exact e
          · rw [upd_ne c]
            refine o1.keep b o nb ?_ nt
            rw [← eL, upd_ne c]
            exact a1.keep b o nb e nt
        · have g2 := a1.tab b gb
          have bt : b ≠ Ad.t := g2.elim fun q z y => by rw [y, ht1] at z; cases z.1
          have g3 : GxR.TabG L b := g2.elim fun q z => ⟨q, by rw [← eL, upd_ne bt]; exact z.1, z.2⟩
          exact (o1.tab b g3).elim fun q z => ⟨q, by rw [upd_ne bt]; exact z.1, z.2⟩
      refine q _ ⟨⟨dp, rv, .ref bi, ?_, bi, rfl, f1.tk tU⟩, upd_same, fun x hx => ?_, hk.ci, hk.cp⟩ ofR
      · rw [upd_ne hk.tp.symm]
        exact p1
      · have k := c1 x hx
        rw [if_pos hx] at k
        obtain ⟨dc, mv, jv, k1, k2, k3⟩ := k
        refine ⟨dc, mv, jv, ?_, k2.tk tU, k3.tk tU⟩
        rw [upd_ne (hk.tc hx).symm]
        exact k1

end
end KR
namespace KR
open PySem PySem.Spec PyProof.Rows L2
section
variable {P : Program} {w : World} {K : PySem.W.Frag} {mg : Str → Option Value} {base : Heap}
theorem ok_Kettles_pour (T : All K mg) : FnOk P w K mg base (L2.CX P w) 6 T.f_Kettles_pour T.fd_Kettles_pour ["self", "kettle", "juice"] (sp_Kettles_pour K T.C_Kettles T.C_Kettle T.C_NoKettle T.C_NoRoom) := by
  refine T.F_Kettles_pour.okX sc_Kettles_pour (fun vs H Q E h => ?_) (fun cdv A outer s H vs Q E hr h => ?_)
  · obtain ⟨A, nms, S, x, j, s, w, rfl, _⟩ := h
    rfl
  · obtain ⟨Ad, nms, S, x, j, s, w, rfl, hk, hj, bg, w1, w2, w3⟩ := h
    refine ⟨_, (pss_cons (ps_set (i := 3) sc_Kettles_pour.nd rfl (by first | exact Or.inl rfl | exact Or.inr rfl) (pe_meth (pv 0) T.L_Kettles T.m_Kettles__named (ok_Kettles__named T) (hr.mono (by decide)) T.b_Kettles__named .nil (passes_call (takes_of rfl rfl rfl rfl) (fun _ _ _ _ h => h)) (pa_cons (pv 1) pa_nil)))
      (pss_one (ps_fld (pv 3) (pe_call (ok_p_poured_into T) hr (by rfl) T.d_p_poured_into.mg T.d_p_poured_into.fn.kp T.d_p_poured_into.b .nil (passes_call (takes_of rfl rfl rfl rfl) (fun _ _ _ _ h => h)) (pa_cons (pv 1) (pa_cons (pe_fldK (K := K) rfl (pv 3) rfl) (pa_cons (pe_fldK (K := K) rfl (pv 3) rfl) (pa_cons (pv 2) pa_nil))))) rfl))), ?_⟩
    obtain ⟨dx, rv, bv, hp, _⟩ := hk.p
    refine ⟨_, rfl, Ad.p, dx, _, rfl, hp, rfl, _, rfl, Ad, nms, S, x, rfl, hk, w1, fun hx => ?_⟩
    obtain ⟨dc, mv, jv, k1, k2, j0, rfl, k3⟩ := hk.cell x hx
    obtain ⟨vb, rb⟩ := bg hx
    refine ⟨_, rfl, _, rfl, Ad.c x, T.C_Kettle, dc, _, _, rfl, k1, T.L_Kettle, T.n_Kettle_room, rfl, ?_⟩
    refine ⟨_, rfl, Ad.c x, T.C_Kettle, dc, _, _, rfl, k1, T.L_Kettle, T.n_Kettle_juice, rfl, ?_⟩
    refine ⟨_, rfl, .str x, (S.st x).room, j0, j, _, _, s, w, rfl, k3, hj, vb.a, vb.b, vb.c, vb.d, vb.e, vb.f, vb.g, rb, w2 hx, fun nr z H1 s1 hz => ?_⟩
    refine ⟨_, rfl, Ad.c x, T.C_Kettle, dc, _, rfl, s1 _ _ k1, T.L_Kettle, T.n_Kettle_juice, (by show 5 < 1000; decide), ?_⟩
    have of1 : Off K (· = Ad.c x) H1 _ := .put (s1 _ _ k1) .ins rfl (o2 := .ins T.C_Kettle dc (kf (S.st x).room (S.st x).fire mv (.ref z) (S.st x).on))
    have of : Off K (· = Ad.c x) H _ := (Off.same s1).seq of1
    exact w3 hx nr _ (hk.set hx of ⟨dc, mv, .ref z, upd_same, k2.tk of.tk, z, rfl, hz.tk of1.tk⟩) (of.mono fun a e => .inr ⟨x, hx, e⟩)

end
end KR
namespace KR
open PySem PySem.Spec PyProof.Rows L2
section
variable {P : Program} {w : World} {K : PySem.W.Frag} {mg : Str → Option Value} {base : Heap}
theorem ok_Kettles_take_out (T : All K mg) : FnOk P w K mg base (L2.CX P w) 5 T.f_Kettles_take_out T.fd_Kettles_take_out ["self", "kettle", "part"] (sp_Kettles_take K T.C_Kettles T.C_Kettle T.C_NoKettle) := by
  refine T.F_Kettles_take_out.okX sc_Kettles_take_out (fun vs H Q E h => ?_) (fun cdv A outer s H vs Q E hr h => ?_)
  · obtain ⟨A, nms, S, x, a, t, rfl, _⟩ := h
    rfl
  · obtain ⟨Ad, nms, S, x, a, t, rfl, hk, hx, ha, b1, b2, b3, b4, q⟩ := h
    refine ⟨_, (pss_cons (ps_set (i := 3) sc_Kettles_take_out.nd rfl (by first | exact Or.inl rfl | exact Or.inr rfl) (pe_meth (pv 0) T.L_Kettles T.m_Kettles__named (ok_Kettles__named T) (hr.mono (by decide)) T.b_Kettles__named .nil (passes_call (takes_of rfl rfl rfl rfl) (fun _ _ _ _ h => h)) (pa_cons (pv 1) pa_nil)))
      (pss_cons (ps_set (i := 4) sc_Kettles_take_out.nd rfl (by first | exact Or.inl rfl | exact Or.inr rfl) (pe_call (ok_p_share_of T) (hr.mono (by decide)) (by rfl) T.d_p_share_of.mg T.d_p_share_of.fn.kp T.d_p_share_of.b .nil pass0 (pa_cons (pe_fldK (K := K) rfl (pv 3) rfl) (pa_cons (pv 2) pa_nil))))
      (pss_cons (ps_fld (pv 3) (pe_call (ok_p_rest_of T) hr (by rfl) T.d_p_rest_of.mg T.d_p_rest_of.fn.kp T.d_p_rest_of.b .nil pass0 (pa_cons (pe_fldK (K := K) rfl (pv 3) rfl) (pa_cons (pv 2) pa_nil))) rfl)
      (pss_one (ps_ret (pv 4)))))), ?_⟩
    obtain ⟨dx, rv, bv, hp, _⟩ := hk.p
    refine ⟨_, rfl, Ad.p, dx, _, rfl, hp, rfl, _, rfl, Ad, nms, S, x, rfl, hk, fun z => absurd hx z, fun hx => ?_⟩
    obtain ⟨dc, mv, jv, k1, k2, j0, rfl, k3⟩ := hk.cell x hx
    refine ⟨_, rfl, Ad.c x, T.C_Kettle, dc, _, _, rfl, k1, T.L_Kettle, T.n_Kettle_juice, rfl, ?_⟩
    refine ⟨_, rfl, j0, a, _, _, t, rfl, k3, ha, b1, b2, b3, fun z H1 s1 hz => ?_⟩
    refine ⟨_, rfl, Ad.c x, T.C_Kettle, dc, _, _, rfl, s1 _ _ k1, T.L_Kettle, T.n_Kettle_juice, rfl, ?_⟩
    refine ⟨_, rfl, j0, a, _, _, t, rfl, k3.same s1, ha.same s1, b1, b2, b3, b4, fun y H2 s2 hy => ?_⟩
    have s12 := s1.trans s2
    refine ⟨_, rfl, Ad.c x, T.C_Kettle, dc, _, rfl, s12 _ _ k1, T.L_Kettle, T.n_Kettle_juice, (by show 5 < 1000; decide), ?_⟩
    have of1 : Off K (· = Ad.c x) H2 _ := .put (s12 _ _ k1) .ins rfl (o2 := .ins T.C_Kettle dc (kf (S.st x).room (S.st x).fire mv (.ref y) (S.st x).on))
    have of : Off K (· = Ad.c x) H _ := (Off.same s12).seq of1
    exact ⟨_, rfl, q z _ (hk.set hx of ⟨dc, mv, .ref y, upd_same, k2.tk of.tk, y, rfl, hy.tk of1.tk⟩) ((hz.same s2).tk of1.tk) (of.mono fun a e => .inr ⟨x, hx, e⟩)⟩

end
end KR
namespace KR
open PySem PySem.Spec PyProof.Rows L2
section
variable {P : Program} {w : World} {K : PySem.W.Frag} {mg : Str → Option Value} {base : Heap}
theorem ok_Kettles_dip (T : All K mg) : FnOk P w K mg base (L2.CX P w) 6 T.f_Kettles_dip T.fd_Kettles_dip ["self", "kettle", "share"] (sp_Kettles_dip K T.C_Kettles T.C_Kettle T.C_NoKettle T.C_NoShare T.C_Empty) := by
  refine T.F_Kettles_dip.okX sc_Kettles_dip (fun vs H Q E h => ?_) (fun cdv A outer s H vs Q E hr h => ?_)
  · obtain ⟨A, nms, S, x, a, t, rfl, _⟩ := h
    rfl
  · obtain ⟨Ad, nms, S, x, a, t, rfl, hk, ha, bg, b3, b4, w1, w2, w3, w4⟩ := h
    refine ⟨_, (pss_cons (ps_set (i := 3) sc_Kettles_dip.nd rfl (by first | exact Or.inl rfl | exact Or.inr rfl) (pe_meth (pv 0) T.L_Kettles T.m_Kettles__named (ok_Kettles__named T) (hr.mono (by decide)) T.b_Kettles__named .nil (passes_call (takes_of rfl rfl rfl rfl) (fun _ _ _ _ h => h)) (pa_cons (pv 1) pa_nil)))
      (pss_cons (ps_expr (pe_call (ok_p_need_share T) (hr.mono (by decide)) (by rfl) T.d_p_need_share.mg T.d_p_need_share.fn.kp T.d_p_need_share.b .nil (passes_call (takes_of rfl rfl rfl rfl) (fun _ _ _ _ h => h)) (pa_cons (pv 2) pa_nil)))
      (pss_cons (ps_expr (pe_call (ok_p_need_some T) (hr.mono (by decide)) (by rfl) T.d_p_need_some.mg T.d_p_need_some.fn.kp T.d_p_need_some.b .nil (passes_call (takes_of rfl rfl rfl rfl) (fun _ _ _ _ h => h)) (pa_cons (pv 1) (pa_cons (pe_fldK (K := K) rfl (pv 3) rfl) pa_nil))))
      (pss_one (ps_ret (pe_meth (pv 0) T.L_Kettles T.m_Kettles_take_out (ok_Kettles_take_out T) hr T.b_Kettles_take_out .nil (passes_call (takes_of rfl rfl rfl rfl) (fun _ _ _ _ h => h)) (pa_cons (pv 1) (pa_cons (pv 2) pa_nil)))))))), ?_⟩
    obtain ⟨dx, rv, bv, hp, _⟩ := hk.p
    refine ⟨_, rfl, Ad.p, dx, _, rfl, hp, rfl, _, rfl, Ad, nms, S, x, rfl, hk, w1, fun hx => ?_⟩
    obtain ⟨dc, mv, jv, k1, k2, j0, rfl, k3⟩ := hk.cell x hx
    obtain ⟨b1, b2⟩ := bg hx
    refine ⟨_, rfl, a, t, rfl, ha, w2 hx, fun ok => ?_⟩
    refine ⟨_, rfl, _, rfl, Ad.c x, T.C_Kettle, dc, _, _, rfl, k1, T.L_Kettle, T.n_Kettle_juice, rfl, ?_⟩
    refine ⟨.str x, j0, _, _, rfl, k3, w3 hx ok, fun ne H1 s1 => ?_⟩
    refine ⟨_, rfl, Ad.p, dx, _, rfl, s1 _ _ hp, rfl, _, rfl, _, rfl, Ad, nms, S, x, a, t, rfl, hk.same s1, hx, ha.same s1, b1, b2, b3, b4, fun z H2 m2 j2 o2 => ?_⟩
    exact w4 hx ok ne z H2 m2 j2 ((Off.same s1).seq o2)

end
end KR
namespace KR
open PySem PySem.Spec PyProof.Rows L2
section
variable {P : Program} {w : World} {K : PySem.W.Frag} {mg : Str → Option Value} {base : Heap}
theorem ok_Kettles_ladle (T : All K mg) : FnOk P w K mg base (L2.CX P w) 7 T.f_Kettles_ladle T.fd_Kettles_ladle ["self", "one", "other", "share"] (sp_Kettles_ladle K T.C_Kettles T.C_Kettle T.C_NoKettle T.C_Same T.C_NoShare T.C_Empty T.C_NoRoom) := by
  refine T.F_Kettles_ladle.okX sc_Kettles_ladle (fun vs H Q E h => ?_) (fun cdv A outer s H vs Q E hr h => ?_)
  · obtain ⟨A, nms, S, x, y, a, t, rfl, _⟩ := h
    rfl
  · obtain ⟨Ad, nms, S, x, y, a, t, rfl, hk, ha, bg, b3, b4, w1, w2, w3, w4, w5, w6, w7⟩ := h
    refine ⟨_, (pss_cons (ps_set (i := 4) sc_Kettles_ladle.nd rfl (by first | exact Or.inl rfl | exact Or.inr rfl) (pe_meth (pv 0) T.L_Kettles T.m_Kettles__named (ok_Kettles__named T) (hr.mono (by decide)) T.b_Kettles__named .nil (passes_call (takes_of rfl rfl rfl rfl) (fun _ _ _ _ h => h)) (pa_cons (pv 1) pa_nil)))
      (pss_cons (ps_set (i := 5) sc_Kettles_ladle.nd rfl (by first | exact Or.inl rfl | exact Or.inr rfl) (pe_meth (pv 0) T.L_Kettles T.m_Kettles__named (ok_Kettles__named T) (hr.mono (by decide)) T.b_Kettles__named .nil (passes_call (takes_of rfl rfl rfl rfl) (fun _ _ _ _ h => h)) (pa_cons (pv 2) pa_nil)))
      (pss_cons (ps_if (pt_cmpR op_eq (pv 1) (pv 2) (nomark _)) (pss_one (ps_raise rfl (takes_of rfl rfl rfl rfl) (pmk_oex T.O_Same T.i_Same T.tI_Same (ok_init_Same T) (hr.mono (by decide)) T.bI_Same .nil pass0 rfl T.g_Same (by exact (pa_cons (pv 1) pa_nil))))) pss_nil)
      (pss_cons (ps_expr (pe_call (ok_p_need_share T) (hr.mono (by decide)) (by rfl) T.d_p_need_share.mg T.d_p_need_share.fn.kp T.d_p_need_share.b .nil (passes_call (takes_of rfl rfl rfl rfl) (fun _ _ _ _ h => h)) (pa_cons (pv 3) pa_nil)))
      (pss_cons (ps_expr (pe_call (ok_p_need_some T) (hr.mono (by decide)) (by rfl) T.d_p_need_some.mg T.d_p_need_some.fn.kp T.d_p_need_some.b .nil (passes_call (takes_of rfl rfl rfl rfl) (fun _ _ _ _ h => h)) (pa_cons (pv 1) (pa_cons (pe_fldK (K := K) rfl (pv 4) rfl) pa_nil))))
      (pss_cons (ps_fld (pv 5) (pe_call (ok_p_poured_into T) (hr.mono (by decide)) (by rfl) T.d_p_poured_into.mg T.d_p_poured_into.fn.kp T.d_p_poured_into.b .nil (passes_call (takes_of rfl rfl rfl rfl) (fun _ _ _ _ h => h)) (pa_cons (pv 2) (pa_cons (pe_fldK (K := K) rfl (pv 5) rfl) (pa_cons (pe_fldK (K := K) rfl (pv 5) rfl) (pa_cons (pe_call (ok_p_share_of T) (hr.mono (by decide)) (by rfl) T.d_p_share_of.mg T.d_p_share_of.fn.kp T.d_p_share_of.b .nil pass0 (pa_cons (pe_fldK (K := K) rfl (pv 4) rfl) (pa_cons (pv 3) pa_nil))) pa_nil))))) rfl)
      (pss_one (ps_ret (pe_meth (pv 0) T.L_Kettles T.m_Kettles_take_out (ok_Kettles_take_out T) (hr.mono (by decide)) T.b_Kettles_take_out .nil (passes_call (takes_of rfl rfl rfl rfl) (fun _ _ _ _ h => h)) (pa_cons (pv 1) (pa_cons (pv 3) pa_nil))))))))))), ?_⟩
    obtain ⟨dx, rv, bv, hp, _⟩ := hk.p
    refine ⟨_, rfl, Ad.p, dx, _, rfl, hp, rfl, _, rfl, Ad, nms, S, x, rfl, hk, w1, fun hx => ?_⟩
    refine ⟨_, rfl, Ad.p, dx, _, rfl, hp, rfl, _, rfl, Ad, nms, S, y, rfl, hk, w2 hx, fun hy => ?_⟩
    obtain ⟨dc, mv, jv, k1, k2, j0, rfl, k3⟩ := hk.cell x hx
    obtain ⟨dy, my, jy, l1, l2, j1, rfl, l3⟩ := hk.cell y hy
    obtain ⟨b1, b2, vb, rb⟩ := bg hx hy
    refine ⟨_, rfl, _, rfl, rfl, _, rfl, ?_⟩
    by_cases c : V.str x = V.str y
    · rw [decide_eq_true c]
      have e : x = y := V.str.inj c
      refine ⟨_, rfl, by show 1 ≤ 1000; decide, fun b hb => ⟨b, .str x, rfl, upd_same, fun d hd hne => ?_⟩⟩
      rw [upd_ne hne] at hd
      refine ⟨rfl, d, (wh "Same" (.str x)), upd_same, by rw [upd_ne hne, upd_same], hd, ?_⟩
      exact w3 hx hy e d _ (raised_keeps (o1 := exo b T.C_Same none) (o2 := exd d (wh "Same" (.str x))) (o3 := exo b T.C_Same (some d)) (o4 := .xd (wh "Same" (.str x))) hb hd) upd_same
    rw [decide_eq_false c]
    have ne : x ≠ y := fun e => c (by rw [e])
    refine ⟨_, rfl, a, t, rfl, ha, w4 hx hy ne, fun ok => ?_⟩
    refine ⟨_, rfl, _, rfl, Ad.c x, T.C_Kettle, dc, _, _, rfl, k1, T.L_Kettle, T.n_Kettle_juice, rfl, ?_⟩
    refine ⟨.str x, j0, _, _, rfl, k3, w5 hx hy ne ok, fun nn H1 s1 => ?_⟩
    refine ⟨_, rfl, _, rfl, Ad.c y, T.C_Kettle, dy, _, _, rfl, s1 _ _ l1, T.L_Kettle, T.n_Kettle_room, rfl, ?_⟩
    refine ⟨_, rfl, Ad.c y, T.C_Kettle, dy, _, _, rfl, s1 _ _ l1, T.L_Kettle, T.n_Kettle_juice, rfl, ?_⟩
    refine ⟨_, rfl, Ad.c x, T.C_Kettle, dc, _, _, rfl, s1 _ _ k1, T.L_Kettle, T.n_Kettle_juice, rfl, ?_⟩
    refine ⟨_, rfl, j0, a, _, _, t, rfl, k3.same s1, ha.same s1, b1, b2, b3, fun g H2 s2 hg => ?_⟩
    have s12 := s1.trans s2
    refine ⟨.str y, (S.st y).room, j1, g, _, _, _, _, rfl, l3.same s12, hg, vb.a, vb.b, vb.c, vb.d, vb.e, vb.f, vb.g, rb, fun fu => w6 hx hy ne ok nn fu H2 s12, fun nf z H3 s3 hz => ?_⟩
    have s13 := s12.trans s3
    refine ⟨_, rfl, Ad.c y, T.C_Kettle, dy, _, rfl, s13 _ _ l1, T.L_Kettle, T.n_Kettle_juice, (by show 5 < 1000; decide), ?_⟩
    have of1 : Off K (· = Ad.c y) H3 _ := .put (s13 _ _ l1) .ins rfl (o2 := .ins T.C_Kettle dy (kf (S.st y).room (S.st y).fire my (.ref z) (S.st y).on))
    have of : Off K (· = Ad.c y) H _ := (Off.same s13).seq of1
    have hk1 := hk.set hy of (k := (S.st y).inn ((S.st x).s * t) ((S.st x).w * t)) ⟨dy, my, .ref z, upd_same, l2.tk of.tk, z, rfl, hz.tk of1.tk⟩
    have ex : (S.put y ((S.st y).inn ((S.st x).s * t) ((S.st x).w * t))).st x = S.st x := set1_ne ne
    obtain ⟨dx2, rv2, bv2, hp2, _⟩ := hk1.p
    refine ⟨_, rfl, Ad.p, dx2, _, rfl, hp2, rfl, _, rfl, _, rfl, Ad, nms, _, x, a, t, rfl, hk1, hx, ha.tk of.tk, by rw [ex]; exact b1, by rw [ex]; exact b2, b3, b4, fun z2 H4 m4 j4 o4 => ?_⟩
    rw [ex] at m4 j4
    exact w7 hx hy ne ok nn nf z2 H4 m4 j4 ((of.mono fun a e => .inr ⟨y, hy, e⟩).seq o4)

end
end KR
namespace KR
open PySem PySem.Spec PyProof.Rows L2
section
variable {P : Program} {w : World} {K : PySem.W.Frag} {mg : Str → Option Value} {base : Heap}
theorem ok_Kettles_skim (T : All K mg) : FnOk P w K mg base (L2.CX P w) 7 T.f_Kettles_skim T.fd_Kettles_skim ["self", "kettle", "share", "given", "other"] (sp_Kettles_skim K T.C_Kettles T.C_Kettle T.C_NoKettle T.C_NoShare T.C_Empty T.C_NoRoom) := by
  refine T.F_Kettles_skim.okX sc_Kettles_skim (fun vs H Q E h => ?_) (fun cdv A outer s H vs Q E hr h => ?_)
  · obtain ⟨A, nms, S, x, y, a, b, t, g, rfl, _⟩ := h
    rfl
  · obtain ⟨Ad, nms, S, x, y, a, b, t, g, rfl, hk, ha, hb, bg, b3, b4, b5, b6, w1, w2, w3, w4, w5, w6, w7⟩ := h
    refine ⟨_, (pss_cons (ps_set (i := 5) sc_Kettles_skim.nd rfl (by first | exact Or.inl rfl | exact Or.inr rfl) (pe_meth (pv 0) T.L_Kettles T.m_Kettles__named (ok_Kettles__named T) (hr.mono (by decide)) T.b_Kettles__named .nil (passes_call (takes_of rfl rfl rfl rfl) (fun _ _ _ _ h => h)) (pa_cons (pv 1) pa_nil)))
      (pss_cons (ps_set (i := 6) sc_Kettles_skim.nd rfl (by first | exact Or.inl rfl | exact Or.inr rfl) (pe_meth (pv 0) T.L_Kettles T.m_Kettles__named (ok_Kettles__named T) (hr.mono (by decide)) T.b_Kettles__named .nil (passes_call (takes_of rfl rfl rfl rfl) (fun _ _ _ _ h => h)) (pa_cons (pv 4) pa_nil)))
      (pss_cons (ps_expr (pe_call (ok_p_need_share T) (hr.mono (by decide)) (by rfl) T.d_p_need_share.mg T.d_p_need_share.fn.kp T.d_p_need_share.b .nil (passes_call (takes_of rfl rfl rfl rfl) (fun _ _ _ _ h => h)) (pa_cons (pv 2) pa_nil)))
      (pss_cons (ps_J (ps_if (pt_cmpR (neDK (K := K) rfl hr.units) (pv 3) (pe_glob (v := .ref T.C_NOUGHT) rfl T.g_NOUGHT rfl) (nomark _)) (pss_one (ps_expr (pe_call (ok_p_need_share T) (hr.mono (by decide)) (by rfl) T.d_p_need_share.mg T.d_p_need_share.fn.kp T.d_p_need_share.b .nil (passes_call (takes_of rfl rfl rfl rfl) (fun _ _ _ _ h => h)) (pa_cons (pv 3) pa_nil)))) pss_nil))
      (pss_cons (ps_expr (pe_call (ok_p_need_some T) (hr.mono (by decide)) (by rfl) T.d_p_need_some.mg T.d_p_need_some.fn.kp T.d_p_need_some.b .nil (passes_call (takes_of rfl rfl rfl rfl) (fun _ _ _ _ h => h)) (pa_cons (pv 1) (pa_cons (pe_fldK (K := K) rfl (pv 5) rfl) pa_nil))))
      (pss_cons (ps_set (i := 7) sc_Kettles_skim.nd rfl (by first | exact Or.inl rfl | exact Or.inr rfl) (pe_call (ok_p_share_of T) (hr.mono (by decide)) (by rfl) T.d_p_share_of.mg T.d_p_share_of.fn.kp T.d_p_share_of.b .nil pass0 (pa_cons (pe_fldK (K := K) rfl (pv 5) rfl) (pa_cons (pv 2) pa_nil))))
      (pss_cons (ps_set (i := 8) sc_Kettles_skim.nd rfl (by first | exact Or.inl rfl | exact Or.inr rfl) (pe_call (ok_p_rest_of T) (hr.mono (by decide)) (by rfl) T.d_p_rest_of.mg T.d_p_rest_of.fn.kp T.d_p_rest_of.b .nil pass0 (pa_cons (pe_fldK (K := K) rfl (pv 5) rfl) (pa_cons (pv 2) pa_nil))))
      (pss_cons (ps_set (i := 9) sc_Kettles_skim.nd rfl (by first | exact Or.inl rfl | exact Or.inr rfl) (pe_call (ok_p_share_of T) (hr.mono (by decide)) (by rfl) T.d_p_share_of.mg T.d_p_share_of.fn.kp T.d_p_share_of.b .nil pass0 (pa_cons (pv 7) (pa_cons (pv 3) pa_nil))))
      (pss_cons (ps_J (ps_set (i := 10) sc_Kettles_skim.nd rfl (by first | exact Or.inl rfl | exact Or.inr rfl) (pe_ifExp (pt_cmpR op_eq (pv 1) (pv 4) (nomark _)) (pv 8) (pe_fldK (K := K) rfl (pv 6) rfl))))
      (pss_cons (ps_set (i := 11) sc_Kettles_skim.nd rfl (by first | exact Or.inl rfl | exact Or.inr rfl) (pe_call (ok_p_poured_into T) (hr.mono (by decide)) (by rfl) T.d_p_poured_into.mg T.d_p_poured_into.fn.kp T.d_p_poured_into.b .nil (passes_call (takes_of rfl rfl rfl rfl) (fun _ _ _ _ h => h)) (pa_cons (pv 4) (pa_cons (pe_fldK (K := K) rfl (pv 6) rfl) (pa_cons (pv 10) (pa_cons (pv 9) pa_nil))))))
      (pss_cons (ps_fld (pv 5) (pv 8) rfl)
      (pss_cons (ps_fld (pv 6) (pv 11) rfl)
      (pss_one (ps_ret (pe_tupI (pa_cons (pv 9) (pa_cons (pe_call (ok_p_rest_of T) (hr.mono (by decide)) (by rfl) T.d_p_rest_of.mg T.d_p_rest_of.fn.kp T.d_p_rest_of.b .nil pass0 (pa_cons (pv 7) (pa_cons (pv 3) pa_nil))) pa_nil))))))))))))))))), ?_⟩
    obtain ⟨dx, rv, bv, hp, _⟩ := hk.p
    refine ⟨_, rfl, Ad.p, dx, _, rfl, hp, rfl, _, rfl, Ad, nms, S, x, rfl, hk, w1, fun hx => ?_⟩
    refine ⟨_, rfl, Ad.p, dx, _, rfl, hp, rfl, _, rfl, Ad, nms, S, y, rfl, hk, w2 hx, fun hy => ?_⟩
    obtain ⟨dc, mv, jv, k1, k2, j0, rfl, k3⟩ := hk.cell x hx
    obtain ⟨dy, my, jy, l1, l2, j1, rfl, l3⟩ := hk.cell y hy
    obtain ⟨b1, b2, b7, b8, vb, rb⟩ := bg hx hy
    refine ⟨_, rfl, a, t, rfl, ha, w3 hx hy, fun ok => ?_⟩
    refine ⟨fun σ' H' => σ' = [some (.ref Ad.p), some (.str x), some (.ref a), some (.ref b), some (.str y), some (.ref (Ad.c x)), some (.ref (Ad.c y)), none, none, none, none, none] ∧ H = H' ∧ (g = 0 ∨ ShOk g), ?_, ?_⟩
    case' refine_2 =>
      refine ⟨_, rfl, dq g, .tuple [.int 0, .int 1], hb.dp, .tup (T.q_NOUGHT H) (.cons (.int _) (.cons (.int _) .nil)), rfl, rfl, _, rfl, ?_⟩
      rw [show PyData.eqv (dq g) (.tuple [.int 0, .int 1]) = decide (g = 0) from eqv_pair.trans is_zero]
      by_cases c : g = 0
      · rw [decide_eq_true c]
        exact ⟨rfl, rfl, .inl c⟩
      · rw [decide_eq_false c]
        exact ⟨_, rfl, b, g, rfl, hb, w4 hx hy ok c, fun og => ⟨rfl, rfl, .inr og⟩⟩
    rintro σ' H' ⟨rfl, rfl, og⟩
    refine ⟨_, rfl, _, rfl, Ad.c x, T.C_Kettle, dc, _, _, rfl, k1, T.L_Kettle, T.n_Kettle_juice, rfl, ?_⟩
    refine ⟨.str x, j0, _, _, rfl, k3, w5 hx hy ok og, fun nn H1 s1 => ?_⟩
    refine ⟨_, rfl, Ad.c x, T.C_Kettle, dc, _, _, rfl, s1 _ _ k1, T.L_Kettle, T.n_Kettle_juice, rfl, ?_⟩
    refine ⟨_, rfl, j0, a, _, _, t, rfl, k3.same s1, ha.same s1, b1, b2, b3, fun sk H2 s2 hsk => ?_⟩
    have s12 := s1.trans s2
    refine ⟨_, rfl, Ad.c x, T.C_Kettle, dc, _, _, rfl, s12 _ _ k1, T.L_Kettle, T.n_Kettle_juice, rfl, ?_⟩
    refine ⟨_, rfl, j0, a, _, _, t, rfl, k3.same s12, ha.same s12, b1, b2, b3, b4, fun le H3 s3 hle => ?_⟩
    have s13 := s12.trans s3
    refine ⟨_, rfl, _, rfl, sk, b, _, _, g, rfl, hsk.same s3, hb.same s13, b7, b8, b5, fun po H4 s4 hpo => ?_⟩
    have s14 := s13.trans s4
    obtain ⟨bj, hbj, eb, tb⟩ : ∃ bj, JuQ K H4 bj (Ke.bef S x y t).s (Ke.bef S x y t).w ∧ (x = y → bj = le) ∧ (x ≠ y → bj = j1) := by
      by_cases c : x = y
      · refine ⟨le, ?_, fun _ => rfl, fun n => absurd c n⟩
        unfold Ke.bef
        rw [if_pos c]
        exact hle.same s4
      · refine ⟨j1, ?_, fun n => absurd n c, fun _ => rfl⟩
        unfold Ke.bef
        rw [if_neg c]
        exact l3.same s14
    have er : (Ke.bef S x y t).room = (S.st y).room ∧ (Ke.bef S x y t).fire = (S.st y).fire ∧ (Ke.bef S x y t).mark = (S.st y).mark ∧ (Ke.bef S x y t).on = (S.st y).on := by
      unfold Ke.bef
      split
      · rename_i c
        rw [c]
        exact ⟨rfl, rfl, rfl, rfl⟩
      · exact ⟨rfl, rfl, rfl, rfl⟩
    have pour : ∀ {Q' : VK} {E' : XK}, (((Ke.bef S x y t).full ((S.st x).s * t * g) ((S.st x).w * t * g)) → Rf T.C_NoRoom "NoRoom" (.str y) H4 E') → (¬ ((Ke.bef S x y t).full ((S.st x).s * t * g) ((S.st x).w * t * g)) → ∀ z H', Same H4 H' → JuQ K H' z ((Ke.bef S x y t).s + (S.st x).s * t * g) ((Ke.bef S x y t).w + (S.st x).w * t * g) → Q' (.ref z) H') → sp_poured_into K T.C_NoRoom [.str y, .int (S.st y).room, .ref bj, .ref po] H4 Q' E' := fun {Q' E'} p1 p2 => by
      unfold Ke.full at p1 p2
      rw [er.1] at p1 p2
      exact ⟨.str y, (S.st y).room, bj, po, _, _, _, _, rfl, hbj, hpo, vb.a, vb.b, vb.c, vb.d, vb.e, vb.f, vb.g, rb, p1, p2⟩
    refine ⟨fun σ' H' => σ' = [some (.ref Ad.p), some (.str x), some (.ref a), some (.ref b), some (.str y), some (.ref (Ad.c x)), some (.ref (Ad.c y)), some (.ref sk), some (.ref le), some (.ref po), some (.ref bj), none] ∧ H4 = H', ?_, ?_⟩
    case' refine_2 =>
      refine ⟨_, rfl, _, rfl, rfl, _, rfl, ?_⟩
      by_cases c : V.str x = V.str y
      · rw [decide_eq_true c]
        refine ⟨_, rfl, ?_⟩
        rw [← eb (V.str.inj c)]
        exact ⟨rfl, rfl⟩
      · rw [decide_eq_false c]
        refine ⟨_, rfl, Ad.c y, T.C_Kettle, dy, _, _, rfl, s14 _ _ l1, T.L_Kettle, T.n_Kettle_juice, rfl, ?_⟩
        rw [← tb (fun e => c (by rw [e]))]
        exact ⟨rfl, rfl⟩
    rintro σ' H' ⟨rfl, rfl⟩
    refine ⟨_, rfl, _, rfl, Ad.c y, T.C_Kettle, dy, _, _, rfl, s14 _ _ l1, T.L_Kettle, T.n_Kettle_room, rfl, ?_⟩
    refine ⟨_, rfl, _, rfl, ?_⟩
    dsimp only [tNil, List.append_nil]
    refine pour (fun fu => w6 hx hy ok og nn fu H4 s14) fun nf z H5 s5 hz => ?_
    have s15 := s14.trans s5
    refine ⟨_, rfl, _, rfl, Ad.c x, T.C_Kettle, dc, _, rfl, s15 _ _ k1, T.L_Kettle, T.n_Kettle_juice, (by show 5 < 1000; decide), ?_⟩
    have of1 : Off K (· = Ad.c x) H5 _ := .put (s15 _ _ k1) .ins rfl (o2 := .ins T.C_Kettle dc (kf (S.st x).room (S.st x).fire mv (.ref le) (S.st x).on))
    have of : Off K (· = Ad.c x) H _ := (Off.same s15).seq of1
    have hk1 := hk.set hx of (k := (S.st x).out t) ⟨dc, mv, .ref le, upd_same, k2.tk of.tk, le, rfl, ((hle.same s4).same s5).tk of1.tk⟩
    obtain ⟨dz, mz, jz, z1, z2, z3⟩ := hk1.cell y hy
    have ey : (S.put x ((S.st x).out t)).st y = Ke.bef S x y t := by
      unfold Ke.bef
      by_cases c : x = y
      · rw [if_pos c, ← c]
        exact set1_same
      · rw [if_neg c]
        exact set1_ne fun e => c e.symm
    rw [ey] at z1 z2 z3
    refine ⟨_, rfl, _, rfl, Ad.c y, T.C_Kettle, dz, _, rfl, z1, T.L_Kettle, T.n_Kettle_juice, (by show 5 < 1000; decide), ?_⟩
    have og1 : Off K (· = Ad.c y) _ _ := .put z1 .ins rfl (o2 := .ins T.C_Kettle dz (kf (Ke.bef S x y t).room (Ke.bef S x y t).fire mz (.ref z) (Ke.bef S x y t).on))
    have hk2 := hk1.set hy og1 (k := (Ke.bef S x y t).inn ((S.st x).s * t * g) ((S.st x).w * t * g)) ⟨dz, mz, .ref z, upd_same, z2.tk og1.tk, z, rfl, (hz.tk of1.tk).tk og1.tk⟩
    have tks := ((TK.same (s3.trans (s4.trans s5)) : TK K H2 H5).trans of1.tk).trans og1.tk
    refine ⟨_, rfl, _, rfl, _, rfl, sk, b, _, _, g, rfl, hsk.tk tks, (hb.tk of.tk).tk og1.tk, b7, b8, b5, b6, fun re H6 s6 hre => ⟨rfl, fun tt H7 s7 n7 h7 => ?_⟩⟩
    have s67 := s6.trans s7
    exact w7 hx hy ok og nn nf tt H7 (hk2.same s67) ⟨po, re, SqT.of h7, (((hpo.same s5).tk of1.tk).tk og1.tk).same s67, hre.same s7⟩ (((of.mono fun a e => .inr ⟨x, hx, e⟩).seq (og1.mono fun a e => .inr ⟨y, hy, e⟩)).seq (.same s67))

end
end KR
namespace KR
open PySem PySem.Spec PyProof.Rows L2
section
variable {P : Program} {w : World} {K : PySem.W.Frag} {mg : Str → Option Value} {base : Heap}
theorem ok_Kettles_stop (T : All K mg) : FnOk P w K mg base (L2.CX P w) 4 T.f_Kettles_stop T.fd_Kettles_stop ["self", "kettle"] (sp_Kettles_work K T.C_Kettles T.C_Kettle T.C_NoKettle T.C_Stopped "Stopped" false) := by
  refine T.F_Kettles_stop.okX sc_Kettles_stop (fun vs H Q E h => ?_) (fun cdv A outer s H vs Q E hr h => ?_)
  · obtain ⟨A, nms, S, x, rfl, _⟩ := h
    rfl
  · obtain ⟨Ad, nms, S, x, rfl, hk, w1, w2, w3⟩ := h
    refine ⟨_, (pss_cons (ps_set (i := 2) sc_Kettles_stop.nd rfl (by first | exact Or.inl rfl | exact Or.inr rfl) (pe_meth (pv 0) T.L_Kettles T.m_Kettles__named (ok_Kettles__named T) hr T.b_Kettles__named .nil (passes_call (takes_of rfl rfl rfl rfl) (fun _ _ _ _ h => h)) (pa_cons (pv 1) pa_nil)))
      (pss_cons (ps_if (pt_not (pt_val (pe_fldK (K := K) rfl (pv 2) rfl))) (pss_one (ps_raise rfl (takes_of rfl rfl rfl rfl) (pmk_oex T.O_Stopped T.i_Stopped T.tI_Stopped (ok_init_Stopped T) (hr.mono (by decide)) T.bI_Stopped .nil pass0 rfl T.g_Stopped (by exact (pa_cons (pv 1) pa_nil))))) pss_nil)
      (pss_one (ps_fld (pv 2) pe_bl rfl)))), ?_⟩
    obtain ⟨dx, rv, bv, hp, _⟩ := hk.p
    refine ⟨_, rfl, Ad.p, dx, _, rfl, hp, rfl, _, rfl, Ad, nms, S, x, rfl, hk, w1, fun hx => ?_⟩
    obtain ⟨dc, mv, jv, k1, k2, k3⟩ := hk.cell x hx
    refine ⟨_, rfl, Ad.c x, T.C_Kettle, dc, _, _, rfl, k1, T.L_Kettle, T.n_Kettle_at_work, rfl, _, rfl, ?_⟩
    cases ho : (S.st x).on with
    | false =>
      refine iteT ?_
      refine ⟨_, rfl, by show 1 ≤ 1000; decide, fun b hb => ⟨b, .str x, rfl, upd_same, fun d hd hne => ?_⟩⟩
      rw [upd_ne hne] at hd
      refine ⟨rfl, d, (wh "Stopped" (.str x)), upd_same, by rw [upd_ne hne, upd_same], hd, ?_⟩
      exact w2 hx ho d _ (raised_keeps (o1 := exo b T.C_Stopped none) (o2 := exd d (wh "Stopped" (.str x))) (o3 := exo b T.C_Stopped (some d)) (o4 := .xd (wh "Stopped" (.str x))) hb hd) upd_same
    | true =>
      refine iteF ?_
      refine ⟨_, rfl, Ad.c x, T.C_Kettle, dc, _, rfl, k1, T.L_Kettle, T.n_Kettle_at_work, (by show 5 < 1000; decide), ?_⟩
      have of : Off K (· = Ad.c x) H _ := .put k1 .ins rfl (o2 := .ins T.C_Kettle dc (kf (S.st x).room (S.st x).fire mv jv false))
      exact w3 hx (by rw [ho]; decide) _ (hk.set hx of ⟨dc, mv, jv, upd_same, k2.tk of.tk, k3.tk of.tk⟩) (of.mono fun a e => .inr ⟨x, hx, e⟩)

end
end KR
namespace KR
open PySem PySem.Spec PyProof.Rows L2
section
variable {P : Program} {w : World} {K : PySem.W.Frag} {mg : Str → Option Value} {base : Heap}
theorem ok_Kettles_start (T : All K mg) : FnOk P w K mg base (L2.CX P w) 4 T.f_Kettles_start T.fd_Kettles_start ["self", "kettle"] (sp_Kettles_work K T.C_Kettles T.C_Kettle T.C_NoKettle T.C_InWork "InWork" true) := by
  refine T.F_Kettles_start.okX sc_Kettles_start (fun vs H Q E h => ?_) (fun cdv A outer s H vs Q E hr h => ?_)
  · obtain ⟨A, nms, S, x, rfl, _⟩ := h
    rfl
  · obtain ⟨Ad, nms, S, x, rfl, hk, w1, w2, w3⟩ := h
    refine ⟨_, (pss_cons (ps_set (i := 2) sc_Kettles_start.nd rfl (by first | exact Or.inl rfl | exact Or.inr rfl) (pe_meth (pv 0) T.L_Kettles T.m_Kettles__named (ok_Kettles__named T) hr T.b_Kettles__named .nil (passes_call (takes_of rfl rfl rfl rfl) (fun _ _ _ _ h => h)) (pa_cons (pv 1) pa_nil)))
      (pss_cons (ps_if (pt_val (pe_fldK (K := K) rfl (pv 2) rfl)) (pss_one (ps_raise rfl (takes_of rfl rfl rfl rfl) (pmk_oex T.O_InWork T.i_InWork T.tI_InWork (ok_init_InWork T) (hr.mono (by decide)) T.bI_InWork .nil pass0 rfl T.g_InWork (by exact (pa_cons (pv 1) pa_nil))))) pss_nil)
      (pss_one (ps_fld (pv 2) pe_bl rfl)))), ?_⟩
    obtain ⟨dx, rv, bv, hp, _⟩ := hk.p
    refine ⟨_, rfl, Ad.p, dx, _, rfl, hp, rfl, _, rfl, Ad, nms, S, x, rfl, hk, w1, fun hx => ?_⟩
    obtain ⟨dc, mv, jv, k1, k2, k3⟩ := hk.cell x hx
    refine ⟨_, rfl, Ad.c x, T.C_Kettle, dc, _, _, rfl, k1, T.L_Kettle, T.n_Kettle_at_work, rfl, _, rfl, ?_⟩
    cases ho : (S.st x).on with
    | true =>
      refine iteT ?_
      refine ⟨_, rfl, by show 1 ≤ 1000; decide, fun b hb => ⟨b, .str x, rfl, upd_same, fun d hd hne => ?_⟩⟩
      rw [upd_ne hne] at hd
      refine ⟨rfl, d, (wh "InWork" (.str x)), upd_same, by rw [upd_ne hne, upd_same], hd, ?_⟩
      exact w2 hx ho d _ (raised_keeps (o1 := exo b T.C_InWork none) (o2 := exd d (wh "InWork" (.str x))) (o3 := exo b T.C_InWork (some d)) (o4 := .xd (wh "InWork" (.str x))) hb hd) upd_same
    | false =>
      refine iteF ?_
      refine ⟨_, rfl, Ad.c x, T.C_Kettle, dc, _, rfl, k1, T.L_Kettle, T.n_Kettle_at_work, (by show 5 < 1000; decide), ?_⟩
      have of : Off K (· = Ad.c x) H _ := .put k1 .ins rfl (o2 := .ins T.C_Kettle dc (kf (S.st x).room (S.st x).fire mv jv true))
      exact w3 hx (by rw [ho]; decide) _ (hk.set hx of ⟨dc, mv, jv, upd_same, k2.tk of.tk, k3.tk of.tk⟩) (of.mono fun a e => .inr ⟨x, hx, e⟩)

end
end KR
namespace KR
open PySem PySem.Spec PyProof.Rows L2
section
variable {P : Program} {w : World} {K : PySem.W.Frag} {mg : Str → Option Value} {base : Heap}
theorem ok_Kettles_hour (T : All K mg) : FnOk P w K mg base CX0 1 T.f_Kettles_hour T.fd_Kettles_hour ["self"] (sp_Kettles_hour K T.C_Kettles T.C_Kettle) := by
  refine T.F_Kettles_hour.ok sc_Kettles_hour (fun vs H Q E h => ?_) (fun cdv A outer s H vs Q E hr h => ?_)
  · obtain ⟨A, nms, S, rfl, _⟩ := h
    rfl
  · obtain ⟨Ad, nms, S, rfl, hk, q⟩ := h
    refine ⟨_, (pss_one (ps_ret (pe_fldK (K := K) rfl (pv 0) rfl))), ?_⟩
    obtain ⟨dx, rv, bv, hp, _⟩ := hk.p
    exact ⟨_, rfl, Ad.p, T.C_Kettles, dx, _, _, rfl, hp, T.L_Kettles, T.n_Kettles__hour, rfl, q⟩

end
end KR
namespace KR
open PySem PySem.Spec PyProof.Rows L2
section
variable {P : Program} {w : World} {K : PySem.W.Frag} {mg : Str → Option Value} {base : Heap}
theorem ok_Kettles_kettle_names (T : All K mg) : FnOk P w K mg base CX0 1 T.f_Kettles_kettle_names T.fd_Kettles_kettle_names ["self"] (sp_Kettles_names K T.C_Kettles T.C_Kettle) := by
  refine T.F_Kettles_kettle_names.ok sc_Kettles_kettle_names (fun vs H Q E h => ?_) (fun cdv A outer s H vs Q E hr h => ?_)
  · obtain ⟨A, nms, S, rfl, _⟩ := h
    rfl
  · obtain ⟨Ad, nms, S, rfl, hk, w⟩ := h
    refine ⟨_, (pss_one (ps_ret (pe_callTy (call_listD rfl) (by rfl) T.b_list (by decide +kernel) (pa_cons (pe_fldK (K := K) rfl (pv 0) rfl) pa_nil)))), ?_⟩
    obtain ⟨dx, rv, bv, hp, _⟩ := hk.p
    refine ⟨_, rfl, Ad.p, T.C_Kettles, dx, _, _, rfl, hp, T.L_Kettles, T.n_Kettles__table, rfl, Ad.t, _, rfl, .inl hk.t, fun p np => ?_⟩
    rw [byN_keys]
    exact w p _ (same_new np) np upd_same

end
end KR
namespace KR
open PySem PySem.Spec PyProof.Rows L2
section
variable {P : Program} {w : World} {K : PySem.W.Frag} {mg : Str → Option Value} {base : Heap}
theorem ok_Kettles_juice_of (T : All K mg) : FnOk P w K mg base (L2.CX P w) 4 T.f_Kettles_juice_of T.fd_Kettles_juice_of ["self", "kettle"] (sp_Kettles_juice K T.C_Kettles T.C_Kettle T.C_NoKettle) := by
  refine T.F_Kettles_juice_of.okX sc_Kettles_juice_of (fun vs H Q E h => ?_) (fun cdv A outer s H vs Q E hr h => ?_)
  · obtain ⟨A, nms, S, x, rfl, _⟩ := h
    rfl
  · obtain ⟨Ad, nms, S, x, rfl, hk, w1, w2⟩ := h
    refine ⟨_, (pss_one (ps_ret (pe_fldK (K := K) rfl (pe_meth (pv 0) T.L_Kettles T.m_Kettles__named (ok_Kettles__named T) hr T.b_Kettles__named .nil (passes_call (takes_of rfl rfl rfl rfl) (fun _ _ _ _ h => h)) (pa_cons (pv 1) pa_nil)) rfl))), ?_⟩
    obtain ⟨dx, rv, bv, hp, _⟩ := hk.p
    refine ⟨_, rfl, Ad.p, dx, _, rfl, hp, rfl, _, rfl, Ad, nms, S, x, rfl, hk, w1, fun hx => ?_⟩
    obtain ⟨dc, mv, jv, k1, k2, jj, rfl, k3⟩ := hk.cell x hx
    exact ⟨Ad.c x, T.C_Kettle, dc, _, _, rfl, k1, T.L_Kettle, T.n_Kettle_juice, rfl, w2 hx jj k3⟩

end
end KR
namespace KR
open PySem PySem.Spec PyProof.Rows L2
section
variable {P : Program} {w : World} {K : PySem.W.Frag} {mg : Str → Option Value} {base : Heap}
theorem ok_Kettles_in_work (T : All K mg) : FnOk P w K mg base (L2.CX P w) 4 T.f_Kettles_in_work T.fd_Kettles_in_work ["self", "kettle"] (sp_Kettles_inwork K T.C_Kettles T.C_Kettle T.C_NoKettle) := by
  refine T.F_Kettles_in_work.okX sc_Kettles_in_work (fun vs H Q E h => ?_) (fun cdv A outer s H vs Q E hr h => ?_)
  · obtain ⟨A, nms, S, x, rfl, _⟩ := h
    rfl
  · obtain ⟨Ad, nms, S, x, rfl, hk, w1, w2⟩ := h
    refine ⟨_, (pss_one (ps_ret (pe_fldK (K := K) rfl (pe_meth (pv 0) T.L_Kettles T.m_Kettles__named (ok_Kettles__named T) hr T.b_Kettles__named .nil (passes_call (takes_of rfl rfl rfl rfl) (fun _ _ _ _ h => h)) (pa_cons (pv 1) pa_nil)) rfl))), ?_⟩
    obtain ⟨dx, rv, bv, hp, _⟩ := hk.p
    refine ⟨_, rfl, Ad.p, dx, _, rfl, hp, rfl, _, rfl, Ad, nms, S, x, rfl, hk, w1, fun hx => ?_⟩
    obtain ⟨dc, mv, jv, k1, _⟩ := hk.cell x hx
    exact ⟨Ad.c x, T.C_Kettle, dc, _, _, rfl, k1, T.L_Kettle, T.n_Kettle_at_work, rfl, w2 hx⟩

end
end KR
namespace KR
open PySem PySem.Spec PyProof.Rows L2
section
variable {P : Program} {w : World} {K : PySem.W.Frag} {mg : Str → Option Value} {base : Heap}
theorem ok_Kettles_is_ready (T : All K mg) : FnOk P w K mg base (L2.CX P w) 6 T.f_Kettles_is_ready T.fd_Kettles_is_ready ["self", "kettle"] (sp_Kettles_isready K T.C_Kettles T.C_Kettle T.C_NoKettle) := by
  refine T.F_Kettles_is_ready.okX sc_Kettles_is_ready (fun vs H Q E h => ?_) (fun cdv A outer s H vs Q E hr h => ?_)
  · obtain ⟨A, nms, S, x, rfl, _⟩ := h
    rfl
  · obtain ⟨Ad, nms, S, x, rfl, hk, bg, w1, w2⟩ := h
    refine ⟨_, (pss_one (ps_ret (pe_meth0 (pe_meth (pv 0) T.L_Kettles T.m_Kettles__named (ok_Kettles__named T) (hr.mono (by decide)) T.b_Kettles__named .nil (passes_call (takes_of rfl rfl rfl rfl) (fun _ _ _ _ h => h)) (pa_cons (pv 1) pa_nil)) T.L_Kettle T.m_Kettle_is_at_mark (ok_Kettle_is_at_mark T) hr T.b_Kettle_is_at_mark .nil pass0))), ?_⟩
    obtain ⟨dx, rv, bv, hp, _⟩ := hk.p
    refine ⟨_, rfl, Ad.p, dx, _, rfl, hp, rfl, _, rfl, Ad, nms, S, x, rfl, hk, w1, fun hx => ?_⟩
    have hc := hk.cell x hx
    obtain ⟨dc, mv, jv, k1, _⟩ := id hc
    obtain ⟨b1, b2, b3⟩ := bg hx
    exact ⟨Ad.c x, dc, _, rfl, k1, rfl, Ad.c x, S.st x, rfl, hc, b1, b2, b3, w2 hx⟩

end
end KR
namespace KR
open PySem PySem.Spec PyProof.Rows L2
section
variable {P : Program} {w : World} {K : PySem.W.Frag} {mg : Str → Option Value} {base : Heap}
theorem ok_Kettles_ready_at (T : All K mg) : FnOk P w K mg base (L2.CX P w) 6 T.f_Kettles_ready_at T.fd_Kettles_ready_at ["self", "kettle"] (sp_Kettles_readyat K T.C_Kettles T.C_Kettle T.C_NoKettle) := by
  refine T.F_Kettles_ready_at.okX sc_Kettles_ready_at (fun vs H Q E h => ?_) (fun cdv A outer s H vs Q E hr h => ?_)
  · obtain ⟨A, nms, S, x, rfl, _⟩ := h
    rfl
  · obtain ⟨Ad, nms, S, x, rfl, hk, bg, h60, w1, w2⟩ := h
    refine ⟨_, (pss_cons (ps_set (i := 2) sc_Kettles_ready_at.nd rfl (by first | exact Or.inl rfl | exact Or.inr rfl) (pe_meth0 (pe_meth (pv 0) T.L_Kettles T.m_Kettles__named (ok_Kettles__named T) (hr.mono (by decide)) T.b_Kettles__named .nil (passes_call (takes_of rfl rfl rfl rfl) (fun _ _ _ _ h => h)) (pa_cons (pv 1) pa_nil)) T.L_Kettle T.m_Kettle_hours_to_mark (ok_Kettle_hours_to_mark T) hr T.b_Kettle_hours_to_mark .nil pass0))
      (pss_cons (ps_if (pt_cmpR op_isN (pv 2) pe_non (nomark _)) (pss_one (ps_ret pe_non)) pss_nil)
      (pss_one (ps_ret (pe_call (ok_p_sum_of T) (hr.mono (by decide)) (by rfl) T.d_p_sum_of.mg T.d_p_sum_of.fn.kp T.d_p_sum_of.b .nil pass0 (pa_cons (pe_tupI (pa_cons (pe_fldK (K := K) rfl (pv 0) rfl) (pa_cons pe_int pa_nil))) (pa_cons (pv 2) pa_nil))))))), ?_⟩
    obtain ⟨dx, rv, bv, hp, _⟩ := hk.p
    refine ⟨_, rfl, Ad.p, dx, _, rfl, hp, rfl, _, rfl, Ad, nms, S, x, rfl, hk, w1, fun hx => ?_⟩
    have hc := hk.cell x hx
    obtain ⟨dc, mv, jv, k1, _⟩ := id hc
    have rb := bg hx
    refine ⟨Ad.c x, dc, _, rfl, k1, rfl, Ad.c x, S.st x, rfl, hc, rb.s, rb.w, rb.u, rb.l, rb.d, rb.f, rb.u0, fun v H1 s1 hv => ?_⟩
    have w3 := w2 hx
    unfold KS.when at w3
    cases e : rdy (S.st x) with
    | none =>
      rw [e] at hv w3
      obtain rfl : v = .non := hv
      exact ⟨_, rfl, rfl, _, rfl, iteT (w3 .non H1 s1 rfl)⟩
    | some q =>
      rw [e] at hv w3
      obtain ⟨a, rfl, ha⟩ := hv
      refine ⟨_, rfl, rfl, _, rfl, iteF ?_⟩
      refine ⟨_, rfl, Ad.p, T.C_Kettles, dx, _, _, rfl, s1 _ _ hp, T.L_Kettles, T.n_Kettles__hour, rfl, rfl, fun t H2 s2 n2 h2 => ?_⟩
      refine ⟨_, rfl, t, a, ((S.hour : Int) : Rat), q, rfl, FrQ.int h2, ha.same s2, (Sz.int (z := (S.hour : Int)) (n := 60) (by omega) (by decide)).up (by decide), rb.r q e, trivial, fun z H3 s3 n3 h3 => ?_⟩
      exact w3 (.ref z) H3 (s1.trans (s2.trans s3)) ⟨z, rfl, h3⟩

end
end KR
namespace KR
open PySem PySem.Spec PyProof.Rows L2
section
variable {P : Program} {w : World} {K : PySem.W.Frag} {mg : Str → Option Value} {base : Heap}
theorem ok_Kettles_boiled_off (T : All K mg) : FnOk P w K mg base CX0 1 T.f_Kettles_boiled_off T.fd_Kettles_boiled_off ["self"] (sp_Kettles_gone K T.C_Kettles T.C_Kettle) := by
  refine T.F_Kettles_boiled_off.ok sc_Kettles_boiled_off (fun vs H Q E h => ?_) (fun cdv A outer s H vs Q E hr h => ?_)
  · obtain ⟨A, nms, S, rfl, _⟩ := h
    rfl
  · obtain ⟨Ad, nms, S, rfl, hk, q⟩ := h
    refine ⟨_, (pss_one (ps_ret (pe_fldK (K := K) rfl (pv 0) rfl))), ?_⟩
    obtain ⟨dx, rv, bv, hp, b, rfl, hb⟩ := hk.p
    exact ⟨_, rfl, Ad.p, T.C_Kettles, dx, _, _, rfl, hp, T.L_Kettles, T.n_Kettles__boiled, rfl, q b hb⟩

end
end KR
namespace KR
open PySem PySem.Spec PyProof.Rows L2
section
variable {P : Program} {w : World} {K : PySem.W.Frag} {mg : Str → Option Value} {base : Heap}
def sp_m_lshare (K : PySem.W.Frag) : Sp := fun vs H Q _ => ∃ (p : Addr) (n : Nat), vs = [.ref p] ∧ BoxAt H p n ∧ n ≤ 999999000 ∧ ∀ (a : Addr) (q : Rat) (H' : Hp), ShOk q → 0 < q → q ≤ 1 → FrQ K H' a q → BoxAt H' p (n + 2) → Fr p H H' → Q (.ref a) H'
theorem ok_l_share (T : All K mg) : FnOk P w K mg base CX0 2 T.f_l_share T.fd_l_share ["_law_box_here"] (sp_m_lshare K) := by
  refine T.d_l_share.fn.ok sc_l_share (fun vs H Q E h => ?_) (fun cdv A outer s H vs Q E hr h => ?_)
  · obtain ⟨p, n, rfl, _⟩ := h
    rfl
  · obtain ⟨p, n, rfl, hB, hn, q⟩ := h
    refine ⟨_, (pss_cons (ps_set (i := 1) sc_l_share.nd rfl (by first | exact Or.inl rfl | exact Or.inr rfl) (pe_op op_add pe_int (pe_call (ok_l_take T) hr (by rfl) T.d_l_take.mg T.d_l_take.fn.kp T.d_l_take.b .nil pass0 (pa_cons (pv 0) (pa_cons pe_int pa_nil)))))
      (pss_one (ps_ret (pe_call (ok_l_low T) hr (by rfl) T.d_l_low.mg T.d_l_low.fn.kp T.d_l_low.b .nil pass0 (pa_cons (pe_op op_add pe_int (pe_call (ok_l_take T) hr (by rfl) T.d_l_take.mg T.d_l_take.fn.kp T.d_l_take.b .nil pass0 (pa_cons (pv 0) (pa_cons (pv 1) pa_nil)))) (pa_cons (pv 1) pa_nil)))))), ?_⟩
    refine ⟨_, rfl, p, 12, n, rfl, hB, by omega, by decide, by decide, fun z H1 z0 z1 B1 F1 => ?_⟩
    refine ⟨_, _, rfl, rfl, ?_⟩
    refine ⟨_, rfl, _, rfl, p, _, n + 1, rfl, B1, by omega, by omega, by omega, fun y H2 y0 y1 B2 F2 => ?_⟩
    refine ⟨_, _, rfl, rfl, _, rfl, ?_⟩
    refine ⟨_, _, rfl, by omega, lt_up (show (1 + y).natAbs < 2 ^ 10 by omega) (by decide), lt_up (show (1 + z).natAbs < 2 ^ 10 by omega) (by decide), fun a H3 s3 n3 h3 => ?_⟩
    have ok : ShOk (rq (1 + y) (1 + z)) := by
      refine ⟨num_pos.mpr (rq_pos (by omega) (by omega)), le_one_of (rq_le_one (by omega) (by omega)), ?_⟩
      have e := rq_low (t := 1 + y) (b := 1 + z) (by omega)
      have e2 : ((1 + z).natAbs : Int) / (Nat.gcd (1 + y).natAbs (1 + z).natAbs : Nat) = ((rq (1 + y) (1 + z)).den : Int) := congrArg Prod.snd e
      rw [← e2]
      have := Int.ediv_le_self ((Nat.gcd (1 + y).natAbs (1 + z).natAbs : Nat) : Int) (show (0 : Int) ≤ ((1 + z).natAbs : Int) by omega)
      omega
    exact q a _ _ ok (rq_pos (by omega) (by omega)) (rq_le_one (by omega) (by omega)) h3 (B2.same s3) (F1.trans (F2.trans (.of s3)))

end
end KR
namespace KR
open PySem PySem.Spec PyProof.Rows L2
section
variable {P : Program} {w : World} {K : PySem.W.Frag} {mg : Str → Option Value} {base : Heap}
structure RkOk (z : RK) : Prop where
  nm : NmQ z.1
  r1 : 1 ≤ z.2.1
  r9 : z.2.1 ≤ 1000000
  f0 : 0 ≤ z.2.2.1
  f9 : z.2.2.1 ≤ 10000
  mo : MOk z.2.2.2
def sp_krow (K : PySem.W.Frag) : Sp := fun vs H Q _ => ∃ (b : Addr) (n many : Nat), vs = [.ref b, .int many, .int 0] ∧ 1 ≤ many ∧ many ≤ 8 ∧ BoxAt H b n ∧ n ≤ 900000000 ∧
  ∀ (a f o : Addr) (ks : List V) (rs : List RK) (H' : Hp), SqT K H' a [.ref f, .ref o] → H' f = some (.lst ks) → H' o = some (.lst []) → ks.length = rs.length → (∀ (j : Nat) (v : V) (z : RK), ks[j]? = some v → rs[j]? = some z → RkAt K H' v z) → (rs.map (·.1)).Nodup → rs.length = many → (∀ z ∈ rs, RkOk z) → f ≠ b → BoxAt H' b (n + 70) → Off K (· = b) H H' → Q (.ref a) H'
theorem cutK {xs : List V} {k : Nat} (h : xs.length = k) : cutV xs none (some (k : Int)) = xs := by
  unfold cutV
  rw [HT.sIx_none, HT.sIx_nat, ← h, Nat.min_self]
  exact List.take_length
theorem cutK2 {xs : List V} {k : Nat} (h : xs.length = k) : cutV xs (some (k : Int)) none = [] := by
  unfold cutV
  rw [HT.sIx_none, HT.sIx_nat, ← h, Nat.min_self, List.drop_length]
  exact List.take_nil
theorem ok_l_row (T : All K mg) : FnOk P w K mg base CX0 8 T.f_l_row T.fd_l_row ["_law_box_here", "_law_kettles", "_law_moulds"] (sp_krow K) := by
  refine T.d_l_row.fn.ok sc_l_row (fun vs H Q E h => ?_) (fun cdv A outer s H vs Q E hr h => ?_)
  · obtain ⟨b, n, many, rfl, _⟩ := h
    rfl
  obtain ⟨p, n, many, rfl, m1, m8, hB, hn, q⟩ := h
  refine ⟨_, (pss_cons (ps_par3 (i := 3) (j := 4) (l := 5) (by rfl) sc_l_row.nd rfl rfl rfl (by decide) (by decide) (by decide) rfl rfl rfl (pa_cons (pe_call (ok_l_names T) (hr.mono (by decide)) (by rfl) T.d_l_names.mg T.d_l_names.fn.kp T.d_l_names.b .nil pass0 (pa_cons (pv 0) (pa_cons (pe_op op_add (pv 1) (pv 2)) pa_nil))) (pa_cons (pe_lstI pa_nil) (pa_cons (pe_lstI pa_nil) pa_nil))) (by rfl))
      (pss_cons (ps_for PassesOwn.never rfl (pi_listK (K := K) rfl (pe_slice (slL (K := K) rfl) (pv 3) po_none (po_some (pv 1)))) (pg_name (i := 6) sc_l_row.nd rfl (by first | exact Or.inl rfl | exact Or.inr rfl)) (pss_cons (ps_set (i := 7) sc_l_row.nd rfl (by first | exact Or.inl rfl | exact Or.inr rfl) (pe_op op_add pe_int (pe_call (ok_l_take T) (hr.mono (by decide)) (by rfl) T.d_l_take.mg T.d_l_take.fn.kp T.d_l_take.b .nil pass0 (pa_cons (pv 0) (pa_cons (pe_ix (ixL (K := K) rfl) (pe_lstI (pa_cons pe_int (pa_cons pe_int pa_nil))) (pe_call (ok_l_take T) (hr.mono (by decide)) (by rfl) T.d_l_take.mg T.d_l_take.fn.kp T.d_l_take.b .nil pass0 (pa_cons (pv 0) (pa_cons pe_int pa_nil))) (fun _ _ => rfl)) pa_nil)))))
      (pss_cons (ps_set (i := 8) sc_l_row.nd rfl (by first | exact Or.inl rfl | exact Or.inr rfl) (pe_call (ok_l_low T) (hr.mono (by decide)) (by rfl) T.d_l_low.mg T.d_l_low.fn.kp T.d_l_low.b .nil pass0 (pa_cons (pe_op op_add pe_int (pe_call (ok_l_take T) (hr.mono (by decide)) (by rfl) T.d_l_take.mg T.d_l_take.fn.kp T.d_l_take.b .nil pass0 (pa_cons (pv 0) (pa_cons (pe_op op_sub (pv 7) pe_int) pa_nil)))) (pa_cons (pv 7) pa_nil))))
      (pss_cons (ps_set (i := 9) sc_l_row.nd rfl (by first | exact Or.inl rfl | exact Or.inr rfl) (pe_op op_add pe_int (pe_call (ok_l_take T) (hr.mono (by decide)) (by rfl) T.d_l_take.mg T.d_l_take.fn.kp T.d_l_take.b .nil pass0 (pa_cons (pv 0) (pa_cons (pe_ix (ixL (K := K) rfl) (pe_lstI (pa_cons pe_int (pa_cons (pe_op op_pow pe_int pe_int) (pa_cons (pe_op op_pow pe_int pe_int) pa_nil)))) (pe_call (ok_l_take T) (hr.mono (by decide)) (by rfl) T.d_l_take.mg T.d_l_take.fn.kp T.d_l_take.b .nil pass0 (pa_cons (pv 0) (pa_cons pe_int pa_nil))) (fun _ _ => rfl)) pa_nil)))))
      (pss_one (ps_expr (pe_bm PySem.F.plainAttrs_list PySem.F.slot_list_append PySem.F.type_list_append mt_append (pv 4) (pa_cons (pe_tupI (pa_cons (pv 6) (pa_cons (pv 9) (pa_cons (pe_call (ok_l_take T) (hr.mono (by decide)) (by rfl) T.d_l_take.mg T.d_l_take.fn.kp T.d_l_take.b .nil pass0 (pa_cons (pv 0) (pa_cons (pe_ix (ixL (K := K) rfl) (pe_lstI (pa_cons pe_int (pa_cons pe_int (pa_cons pe_int pa_nil)))) (pe_call (ok_l_take T) (hr.mono (by decide)) (by rfl) T.d_l_take.mg T.d_l_take.fn.kp T.d_l_take.b .nil pass0 (pa_cons (pv 0) (pa_cons pe_int pa_nil))) (fun _ _ => rfl)) pa_nil))) (pa_cons (pv 8) pa_nil))))) pa_nil))))))))
      (pss_cons (ps_for PassesOwn.never rfl (pi_listK (K := K) rfl (pe_slice (slL (K := K) rfl) (pv 3) (po_some (pv 1)) po_none)) (pg_name (i := 6) sc_l_row.nd rfl (by first | exact Or.inl rfl | exact Or.inr rfl)) (pss_cons (ps_set (i := 7) sc_l_row.nd rfl (by first | exact Or.inl rfl | exact Or.inr rfl) (pe_op op_add pe_int (pe_call (ok_l_take T) (hr.mono (by decide)) (by rfl) T.d_l_take.mg T.d_l_take.fn.kp T.d_l_take.b .nil pass0 (pa_cons (pv 0) (pa_cons pe_int pa_nil)))))
      (pss_cons (ps_set (i := 9) sc_l_row.nd rfl (by first | exact Or.inl rfl | exact Or.inr rfl) (pe_op op_add pe_int (pe_call (ok_l_take T) (hr.mono (by decide)) (by rfl) T.d_l_take.mg T.d_l_take.fn.kp T.d_l_take.b .nil pass0 (pa_cons (pv 0) (pa_cons (pe_ix (ixL (K := K) rfl) (pe_lstI (pa_cons pe_int (pa_cons (pe_op op_pow pe_int pe_int) (pa_cons (pe_op op_pow pe_int pe_int) pa_nil)))) (pe_call (ok_l_take T) (hr.mono (by decide)) (by rfl) T.d_l_take.mg T.d_l_take.fn.kp T.d_l_take.b .nil pass0 (pa_cons (pv 0) (pa_cons pe_int pa_nil))) (fun _ _ => rfl)) pa_nil)))))
      (pss_one (ps_expr (pe_bm PySem.F.plainAttrs_list PySem.F.slot_list_append PySem.F.type_list_append mt_append (pv 5) (pa_cons (pe_tupI (pa_cons (pv 6) (pa_cons (pv 9) (pa_cons (pe_call (ok_l_low T) (hr.mono (by decide)) (by rfl) T.d_l_low.mg T.d_l_low.fn.kp T.d_l_low.b .nil pass0 (pa_cons (pe_call (ok_l_take T) (hr.mono (by decide)) (by rfl) T.d_l_take.mg T.d_l_take.fn.kp T.d_l_take.b .nil pass0 (pa_cons (pv 0) (pa_cons (pv 7) pa_nil))) (pa_cons (pv 7) pa_nil))) pa_nil)))) pa_nil)))))))
      (pss_one (ps_ret (pe_tupI (pa_cons (pv 4) (pa_cons (pv 5) pa_nil)))))))), ?_⟩
  refine ⟨_, rfl, _, rfl, _, rfl, _, _, rfl, rfl, p, n, many, ?_, by omega, by omega, hB, by omega, fun l ts H1 hl lt nd nmt B1 F1 => ?_⟩
  · show [V.ref p, V.int ((many : Int) + 0)] = [V.ref p, V.int (many : Int)]
    rw [Int.add_zero]
  refine ⟨rfl, fun fl H2 s2 n2 h2 => ⟨rfl, fun ol H2b s2b n2b h2b => ⟨_, _, _, rfl, ?_⟩⟩⟩
  have lp : l ≠ p := fun z => by
    obtain ⟨a, b, c, h1, _⟩ := B1
    rw [← z, hl] at h1
    cases ts with
    | nil => simp at lt; omega
    | cons y r => cases h1
  have flp : fl ≠ p := B1.new n2
  have olp : ol ≠ p := (B1.same s2).new n2b
  have lfl : l ≠ fl := ne_of_none hl n2
  have ofl : ol ≠ fl := (ne_of_none h2 n2b).symm
  have s2c := s2.trans s2b
  have hl2 := s2c _ _ hl
  have hf2 := s2b _ _ h2
  have o2 : Off K (· = p) H H2b := (Off.box hB F1).seq (.same s2c)
  refine ⟨_, rfl, _, rfl, _, rfl, l, _, rfl, SqL.of hl2, fun sl H3 s3 n3 h3 => ?_⟩
  rw [cutK (by rw [List.length_map, lt])] at h3
  have slp : sl ≠ p := (B1.same s2c).new n3
  have slf : sl ≠ fl := (ne_of_none hf2 n3).symm
  have B3 : BoxAt H3 p (n + 6) := (B1.same s2c).same s3
  refine ⟨sl, rfl, ⟨_, SqL.of h3⟩, ?_⟩
  refine for_list (K := K) (a := sl) (xs := ts.map V.str) (fun i σ H' => ∃ (v6 v7 v8 v9 : Option V) (ks : List V) (rs : List RK), σ = [some (.ref p), some (.int many), some (.int 0), some (.ref l), some (.ref fl), some (.ref ol), v6, v7, v8, v9] ∧ BoxAt H' p (n + 6 + 7 * i) ∧ Off K (fun a => a = p ∨ a = fl) H3 H' ∧ H' fl = some (.lst ks) ∧ ks.length = i ∧ rs.length = i ∧ rs.map (·.1) = ts.take i ∧ (∀ (j : Nat) (v : V) (z : RK), ks[j]? = some v → rs[j]? = some z → RkAt K H' v z) ∧ ∀ z ∈ rs, RkOk z) ⟨none, none, none, none, [], [], rfl, B3, .refl, s3 _ _ hf2, rfl, rfl, rfl, fun j v z a _ => by simp at a, fun z hz => absurd hz List.not_mem_nil⟩ (fun i σ H' _ ⟨_, _, _, _, _, _, _, _, oi, _⟩ => SqL.of (oi.lst (fun z => z.elim slp slf) h3)) ?_ ?_
  · rintro i v σ H' hi ⟨v6, v7, v8, v9, ks, rs, rfl, Bi, oi, hf, lk, lr, er, hr, ho⟩
    rw [List.getElem?_map] at hi
    obtain ⟨x, hx, rfl⟩ : ∃ x, ts[i]? = some x ∧ v = V.str x := by
      cases e : ts[i]? with
      | none => rw [e] at hi; cases hi
      | some k => rw [e] at hi; exact ⟨k, rfl, (Option.some.inj hi).symm⟩
    have ilt := (List.getElem?_eq_some_iff.mp hx).1
    have nmx : NmQ x := nmt x (List.mem_of_getElem? hx)
    refine ⟨_, rfl, rfl, fun L1 H4 s4 n4 h4 => ⟨_, rfl, p, 2, _, rfl, Bi.same s4, by omega, by decide, by decide, fun z H5 z0 z1 B5 F5 => ?_⟩⟩
    obtain ⟨c, ec, c1, c9⟩ : ∃ c : Int, atI [V.int 5, V.int 59] z = some (.int c) ∧ 1 ≤ c ∧ c ≤ 59 := by
      rcases (by omega : z = 0 ∨ z = 1) with rfl | rfl
      · exact ⟨_, at0, by decide, by decide⟩
      · exact ⟨_, at1, by decide, by decide⟩
    refine ⟨L1, _, z, _, rfl, rfl, SqL.of (F5 _ _ (Bi.new n4) h4), ec, p, c, _, rfl, B5, by omega, by omega, by omega, fun y H6 y0 y1 B6 F6 => ⟨_, _, rfl, rfl, ?_⟩⟩
    have o6 : Off K (· = p) H' H6 := ((Off.same s4).seq (.box (Bi.same s4) F5)).seq (.box B5 F6)
    refine ⟨_, rfl, _, rfl, _, _, rfl, rfl, p, 2 + y - 1, _, rfl, B6, by omega, by omega, by omega, fun t H7 t0 t1 B7 F7 => ⟨_, _, rfl, rfl, ?_⟩⟩
    refine ⟨_, rfl, 1 + t, 2 + y, rfl, by omega, lt_up (show (1 + t).natAbs < 2 ^ 20 by omega) (by decide), lt_up (show (2 + y).natAbs < 2 ^ 20 by omega) (by decide), fun mk H8 s8 n8 hmk => ?_⟩
    have o8 : Off K (· = p) H' H8 := (o6.seq (.box B6 F7)).seq (.same s8)
    have B8 := B7.same s8
    refine ⟨_, rfl, _, _, rfl, rfl, ⟨by decide, by decide, by decide⟩, _, _, rfl, rfl, ⟨by decide, by decide, by decide⟩, rfl, fun L2 H9 s9 n9 h9 => ⟨_, rfl, p, 3, _, rfl, B8.same s9, by omega, by decide, by decide, fun z2 Ha za zb Ba Fa => ?_⟩⟩
    have h9' : H9 L2 = some (.lst [.int 100, .int 10000, .int 1000000]) := h9
    obtain ⟨c2, ec2, c21, c29⟩ : ∃ c : Int, atI [V.int 100, V.int 10000, V.int 1000000] z2 = some (.int c) ∧ 1 ≤ c ∧ c ≤ 1000000 := by
      rcases (by omega : z2 = 0 ∨ z2 = 1 ∨ z2 = 2) with rfl | rfl | rfl
      · exact ⟨_, at0, by decide, by decide⟩
      · exact ⟨_, at1, by decide, by decide⟩
      · exact ⟨_, at2, by decide, by decide⟩
    refine ⟨L2, _, z2, _, rfl, rfl, SqL.of (Fa _ _ (B8.new n9) h9'), ec2, p, c2, _, rfl, Ba, by omega, by omega, by omega, fun r Hb r0 r1 Bb Fb => ⟨_, _, rfl, rfl, ?_⟩⟩
    have ob : Off K (· = p) H' Hb := ((o8.seq (.same s9)).seq (.box (B8.same s9) Fa)).seq (.box Ba Fb)
    have fb := ob.lst flp hf
    refine ⟨_, rfl, .inl ⟨rfl, _, SqL.of fb⟩, ?_⟩
    refine ⟨_, rfl, _, rfl, _, rfl, rfl, fun L3 Hc sc nc hc => ⟨_, rfl, p, 3, _, rfl, Bb.same sc, by omega, by decide, by decide, fun z3 Hd zd ze Bd Fd => ?_⟩⟩
    obtain ⟨c3, ec3, c31, c39⟩ : ∃ c : Int, atI [V.int 4, V.int 60, V.int 10001] z3 = some (.int c) ∧ 1 ≤ c ∧ c ≤ 10001 := by
      rcases (by omega : z3 = 0 ∨ z3 = 1 ∨ z3 = 2) with rfl | rfl | rfl
      · exact ⟨_, at0, by decide, by decide⟩
      · exact ⟨_, at1, by decide, by decide⟩
      · exact ⟨_, at2, by decide, by decide⟩
    refine ⟨L3, _, z3, _, rfl, rfl, SqL.of (Fd _ _ (Bb.new nc) hc), ec3, p, c3, _, rfl, Bd, by omega, by omega, by omega, fun fr He f0 f1 Be Fe => ?_⟩
    refine ⟨_, rfl, rfl, fun tp Hf sf nf hff => ?_⟩
    have of_ : Off K (· = p) H' Hf := (((ob.seq (.same sc)).seq (.box (Bb.same sc) Fd)).seq (.box Bd Fe)).seq (.same sf)
    have ff := of_.lst flp hf
    refine ⟨fl, _, _, rfl, rfl, ff, small' (by omega), ?_⟩
    have tk8 : TK K Hf (upd Hf fl (.lst (ks ++ [.ref tp]))) := TK.upd ff (fun _ y => by cases y) (fun _ _ y => by cases y)
    have o8f : Off K (· = p) H8 Hf := ((((((Off.same s9).seq (.box (B8.same s9) Fa)).seq (.box Ba Fb)).seq (.same sc)).seq (.box (Bb.same sc) Fd)).seq (.box Bd Fe)).seq (.same sf)
    have new : RkAt K (upd Hf fl (.lst (ks ++ [.ref tp]))) (.ref tp) (x, 1 + r, fr, rq (1 + t) (2 + y)) := RkAt.tk ⟨tp, .ref mk, rfl, SqT.of hff, mk, rfl, hmk.tk o8f.tk⟩ tk8
    have okn : RkOk (x, 1 + r, fr, rq (1 + t) (2 + y)) := ⟨nmx, by show 1 ≤ 1 + r; omega, by show 1 + r ≤ 1000000; omega, f0, by show fr ≤ 10000; omega, ⟨rq_pos (by omega) (by omega), rq_lt_one (by omega) (by omega), by have := den_le (t := 1 + t) (b := 2 + y) (by omega); show (rq (1 + t) (2 + y)).den ≤ 60; omega⟩⟩
    refine ⟨_, _, _, _, ks ++ [.ref tp], rs ++ [(x, 1 + r, fr, rq (1 + t) (2 + y))], rfl, ?_, ?_, upd_same, by rw [List.length_append, lk] <;> rfl, by rw [List.length_append, lr] <;> rfl, by rw [List.map_append, er, take_one hx] <;> rfl, fun j v w a b => ?_, fun w hw => ?_⟩
    · exact (((Be.same sf).upd flp).mono (by omega))
    · exact (oi.seq (of_.mono fun _ z => .inl z)).trans (Off.put (R := (· = fl)) ff .lst rfl) fun a z => .inl (.inr z)
    · by_cases c : j < ks.length
      · rw [List.getElem?_append_left c] at a
        rw [List.getElem?_append_left (by omega)] at b
        exact ((hr j v w a b).tk of_.tk).tk tk8
      · have hj : j = ks.length := by
          have := (List.getElem?_eq_some_iff.mp a).1
          rw [List.length_append, List.length_singleton] at this
          omega
        rw [List.getElem?_append_right (by omega), hj, Nat.sub_self] at a
        rw [List.getElem?_append_right (by omega), hj, lk, lr, Nat.sub_self] at b
        cases a
        cases b
        exact new
    · rcases List.mem_append.mp hw with h | h
      · exact ho w h
      · rw [List.mem_singleton.mp h]
        exact okn
  · rintro σ H' ⟨v6, v7, v8, v9, ks, rs, rfl, Bi, oi, hf, lk, lr, er, hr', ho⟩
    have e0 : (ts.map V.str).length = many := by rw [List.length_map, lt]
    rw [e0] at Bi lk lr er
    rw [List.take_of_length_le (by omega)] at er
    have hl' := oi.lst (fun z => z.elim lp lfl) (s3 _ _ hl2)
    have ho' := oi.lst (fun z => z.elim olp ofl) (s3 _ _ h2b)
    refine ⟨_, rfl, _, rfl, _, rfl, l, _, rfl, SqL.of hl', fun sl2 H4 s4 n4 h4 => ?_⟩
    rw [cutK2 e0] at h4
    refine ⟨sl2, rfl, ⟨_, SqL.of h4⟩, ?_⟩
    refine for_list (K := K) (a := sl2) (xs := []) (fun i σ' G => σ' = [some (.ref p), some (.int many), some (.int 0), some (.ref l), some (.ref fl), some (.ref ol), v6, v7, v8, v9] ∧ Same H4 G) ⟨rfl, .refl _⟩ (fun i σ' G _ z => SqL.of (z.2 _ _ h4)) (fun i v σ' G hi _ => by simp at hi) ?_
    rintro σ' G ⟨rfl, sG⟩
    refine ⟨_, rfl, _, rfl, rfl, fun a H5 s5 n5 h5 => ?_⟩
    have s45 := s4.trans (sG.trans s5)
    have fl0 : H fl = none := by
      obtain ⟨o, hob⟩ := B1.some
      exact F1.free hob n2
    have oH : Off K (· = p) H H' := (o2.seq (.same s3)).trans oi (fun a z => z.elim .inl fun z => .inr (.of (by rw [z]; exact fl0)))
    exact q a fl ol ks rs H5 (SqT.of h5) (s45 _ _ hf) (s45 _ _ ho') (by omega) (fun j v z a b => (hr' j v z a b).tk (.same s45)) (by rw [er]; exact nd) lr ho flp ((Bi.same s45).mono (by omega)) (oH.seq (.same s45))

end
end KR
namespace KR
open PySem PySem.Spec PyProof.Rows L2
section
variable {P : Program} {w : World} {K : PySem.W.Frag} {mg : Str → Option Value} {base : Heap}
theorem FrQ.neg {K : PySem.W.Frag} {H : Hp} {x : Addr} {q : Rat} (h : SqT K H x [.int (0 - q.num), .int (q.den : Int)]) : FrQ K H x (-q) := by
  show SqT K H x [.int (-q).num, .int ((-q).den : Int)]
  rw [Rat.neg_num, Rat.neg_den, ← Int.zero_sub]
  exact h
theorem ok_l_minus (T : All K mg) : FnOk P w K mg base CX0 3 T.f_l_minus T.fd_l_minus ["_law_one", "_law_other"] (sp_w2 K (fun p q => p - q) (fun _ q => True)) := by
  refine T.d_l_minus.fn.ok sc_l_minus (fun vs H Q E h => ?_) (fun cdv A outer s H vs Q E hr h => ?_)
  · obtain ⟨x, y, p, q, rfl, _⟩ := h
    rfl
  · obtain ⟨x, y, p, q, rfl, hx, hy, zp, zq, hok, k⟩ := h
    have hy' : SqT K H y [.int q.num, .int (q.den : Int)] := hy
    refine ⟨_, (pss_one (ps_ret (pe_call (ok_l_plus T) hr (by rfl) T.d_l_plus.mg T.d_l_plus.fn.kp T.d_l_plus.b .nil pass0 (pa_cons (pv 0) (pa_cons (pe_tupI (pa_cons (pe_op op_sub pe_int (pe_ix (ixT (K := K) rfl) (pv 1) pe_int (fun _ _ => rfl))) (pa_cons (pe_ix (ixT (K := K) rfl) (pv 1) pe_int (fun _ _ => rfl)) pa_nil))) pa_nil))))), ?_⟩
    refine ⟨_, rfl, _, rfl, y, _, 0, _, rfl, rfl, hy', at0, _, _, rfl, rfl, _, rfl, y, _, 1, _, rfl, rfl, hy', at1, rfl, fun t H1 s1 n1 h1 => ?_⟩
    refine ⟨x, t, p, -q, rfl, hx.same s1, .neg (SqT.of h1), zp, zq.neg, trivial, fun z H2 s2 n2 h2 => ?_⟩
    have h2 : FrQ K H2 z (p + -q) := h2
    rw [← Rat.sub_eq_add_neg] at h2
    exact k z H2 (s1.trans s2) (same_none s1 n2) h2

end
end KR
namespace KR
open PySem PySem.Spec PyProof.Rows L2
section
variable {P : Program} {w : World} {K : PySem.W.Frag} {mg : Str → Option Value} {base : Heap}
theorem ok_l_less (T : All K mg) : FnOk P w K mg base CX0 1 T.f_l_less T.fd_l_less ["_law_one", "_law_other"] (sp_lessB K) := by
  refine T.d_l_less.fn.ok sc_l_less (fun vs H Q E h => ?_) (fun cdv A outer s H vs Q E hr h => ?_)
  · obtain ⟨x, y, p, q, rfl, _⟩ := h
    rfl
  · obtain ⟨x, y, p, q, rfl, hx, hy, zp, zq, k⟩ := h
    have hx' : SqT K H x [.int p.num, .int (p.den : Int)] := hx
    have hy' : SqT K H y [.int q.num, .int (q.den : Int)] := hy
    refine ⟨_, (pss_one (ps_ret (pe_cmpR op_lt (pe_op op_mulX (pe_ix (ixT (K := K) rfl) (pv 0) pe_int (fun _ _ => rfl)) (pe_ix (ixT (K := K) rfl) (pv 1) pe_int (fun _ _ => rfl))) (pe_op op_mulX (pe_ix (ixT (K := K) rfl) (pv 1) pe_int (fun _ _ => rfl)) (pe_ix (ixT (K := K) rfl) (pv 0) pe_int (fun _ _ => rfl))) (nomark _)))), ?_⟩
    obtain ⟨a1, a2⟩ := zp
    obtain ⟨b1, b2⟩ := zq
    refine ⟨_, rfl, x, _, 0, _, rfl, rfl, hx', at0, _, rfl, y, _, 1, _, rfl, rfl, hy', at1, _, _, rfl, rfl, mulZ a1 b2 (by omega), ?_⟩
    refine ⟨_, rfl, y, _, 0, _, rfl, rfl, hy', at0, _, rfl, x, _, 1, _, rfl, rfl, hx', at1, _, _, rfl, rfl, mulZ b1 a2 (by omega), _, _, rfl, rfl, ?_⟩
    have e : decide (p.num * (q.den : Int) < q.num * (p.den : Int)) = decide (p < q) := by
      rw [decide_eq_decide]
      exact lt_cross p q
    show Q (.bl (decide (p.num * (q.den : Int) < q.num * (p.den : Int)))) H
    rw [e]
    exact k

end
end KR
namespace KR
open PySem PySem.Spec PyProof.Rows L2
section
variable {P : Program} {w : World} {K : PySem.W.Frag} {mg : Str → Option Value} {base : Heap}
theorem marks_L : ∀ {rs : List RK}, (∀ z ∈ rs, RkOk z) → ∃ L : Nat, 0 < L ∧ L ≤ 60 ^ rs.length ∧ ∀ z ∈ rs, z.2.2.2.num.natAbs ∣ L
  | [], _ => ⟨1, by decide, by decide, fun z hz => absurd hz List.not_mem_nil⟩
  | z :: r, h => by
    obtain ⟨L, l0, l9, ld⟩ := marks_L fun w hw => h w (List.mem_cons_of_mem _ hw)
    have mo := (h z List.mem_cons_self).mo
    obtain ⟨n0, n1⟩ := mo.num
    have d := mo.ud
    refine ⟨z.2.2.2.num.natAbs * L, Nat.mul_pos (by omega) l0, ?_, fun w hw => ?_⟩
    · rw [List.length_cons, Nat.pow_succ, Nat.mul_comm (60 ^ r.length)]
      exact Nat.mul_le_mul (by omega) l9
    · rcases List.mem_cons.mp hw with e | e
      · rw [e]
        exact Nat.dvd_mul_right _ _
      · exact Nat.dvd_trans (ld w e) (Nat.dvd_mul_left _ _)
theorem rk_ket {K : PySem.W.Frag} {H : Hp} {v : V} {z : RK} (h : RkAt K H v z) (o : RkOk z) : KetAt K H v z.1 (.tuple [.str z.1, .int z.2.1, .int z.2.2.1, dq z.2.2.2]) := by
  obtain ⟨t, dv, rfl, h1, m, rfl, h2⟩ := h
  have lo := rat_low z.2.2.2
  obtain ⟨n0, n1⟩ := o.mo.num
  exact ⟨t, m, z.2.1, z.2.2.1, z.2.2.2.num, (z.2.2.2.den : Int), rfl, h1, h2, ⟨o.nm.nm, o.r1, o.r9, o.f0, o.f9, n0, n1, by have := o.mo.ud; omega, lo.cop⟩, rfl⟩
theorem begun_inv {rs : List RK} {st : Str → Ke} (k : KtOf st rs) (h : ∀ z ∈ rs, RkOk z) (l8 : rs.length ≤ 8) : KInv (rs.map (·.1)) 0 ⟨st, 0, 0⟩ := by
  obtain ⟨L, l0, l9, ld⟩ := marks_L h
  refine ⟨⟨B60, L, by decide +kernel, Nat.dvd_refl _, by rw [Nat.pow_zero, Nat.mul_one]; exact Nat.le_refl _, l0, Nat.le_trans l9 (Nat.pow_le_pow_right (by decide) l8), fun x hx => ?_, Dv.zero⟩, Rat.le_refl, ?_, Nat.zero_le _, by rw [List.length_map]; exact l8⟩
  · obtain ⟨z, hz, rfl⟩ := List.mem_map.mp hx
    have o := h z hz
    show KOk B60 L (st z.1)
    rw [k z hz]
    exact ⟨o.r1, o.r9, o.f0, o.f9, o.mo, ld z hz, Rat.le_refl, Rat.le_refl, by
      have a := Rat.intCast_le_intCast.mpr (Int.le_trans (by decide : (0 : Int) ≤ 1) o.r1)
      have e0 : ((0 : Int) : Rat) = 0 := rfl
      show (0 : Rat) + 0 ≤ (z.2.1 : Rat)
      grind, Dv.zero, Dv.zero⟩
  · show (0 : Rat) ≤ (((8000000 * 0 : Nat) : Int) : Rat)
    exact Rat.le_refl
def sp_kbegun (T : All K mg) : Sp := fun vs H Q _ => ∃ (b : Addr) (n many : Nat), vs = [.ref b, .int many] ∧ 1 ≤ many ∧ many ≤ 8 ∧ BoxAt H b n ∧ n ≤ 900000000 ∧ Tbs T.Ps H ∧
  ∀ (a : Addr) (A : KAd) (B : LKA) (nms : List Str) (S : KS) (H' : Hp), SqT K H' a [.ref A.p, .ref B.a] → KettlesAt K T.C_Kettles T.C_Kettle H' A nms S → LKAt K H' B nms S → KInv nms 0 S → nms.Nodup → nms.length = many → KLay nms → (∀ c, KQ A nms c → ¬ LKQ B nms c ∧ Nw H c) → (∀ c, LKQ B nms c → Nw H c) → BoxAt H' b (n + 70) → Off K (· = b) H H' → Q (.ref a) H'
theorem ok_l_begun (T : All K mg) (B : Tabs T base) : FnOk P w K mg base CX0 9 T.f_l_begun T.fd_l_begun ["_law_box_here", "_law_many"] (sp_kbegun T) := by
  refine T.d_l_begun.fn.ok sc_l_begun (fun vs H Q E h => ?_) (fun cdv A outer s H vs Q E hr h => ?_)
  · obtain ⟨b, n, many, rfl, _⟩ := h
    rfl
  obtain ⟨b, n, many, rfl, m1, m8, hB, hn, hT, q⟩ := h
  refine ⟨_, (pss_cons (ps_asg (pe_call (ok_l_row T) hr (by rfl) T.d_l_row.mg T.d_l_row.fn.kp T.d_l_row.b .nil pass0 (pa_cons (pv 0) (pa_cons (pv 1) (pa_cons pe_int pa_nil)))) (pg_tupK (K := K) rfl rfl (pgs_cons (pg_name (i := 2) sc_l_begun.nd rfl (by first | exact Or.inl rfl | exact Or.inr rfl)) (pgs_cons (pg_name (i := 3) sc_l_begun.nd rfl (by first | exact Or.inl rfl | exact Or.inr rfl)) pgs_nil))))
      (pss_cons (ps_set (i := 4) sc_l_begun.nd rfl (by first | exact Or.inl rfl | exact Or.inr rfl) (pe_disp (pps_cons pe_str pe_int (pps_cons pe_str (pe_tupI (pa_cons pe_int (pa_cons pe_int pa_nil))) (pps_cons pe_str pe_dnewK pps_nil))) rfl rfl (by simp) (by decide)))
      (pss_cons (ps_for PassesOwn.never rfl (pi_listK (K := K) rfl (pv 2)) (pg_tupK (K := K) rfl rfl (pgs_cons (pg_name (i := 5) sc_l_begun.nd rfl (by first | exact Or.inl rfl | exact Or.inr rfl)) (pgs_cons (pg_name (i := 6) sc_l_begun.nd rfl (by first | exact Or.inl rfl | exact Or.inr rfl)) (pgs_cons (pg_name (i := 7) sc_l_begun.nd rfl (by first | exact Or.inl rfl | exact Or.inr rfl)) (pgs_cons (pg_name (i := 8) sc_l_begun.nd rfl (by first | exact Or.inl rfl | exact Or.inr rfl)) pgs_nil))))) (pss_one (ps_asg (pe_lstI (pa_cons (pv 6) (pa_cons (pv 7) (pa_cons (pv 8) (pa_cons (pe_tupI (pa_cons pe_int (pa_cons pe_int pa_nil))) (pa_cons (pe_tupI (pa_cons pe_int (pa_cons pe_int pa_nil))) (pa_cons pe_bl pa_nil))))))) (pg_sub (pe_dget (hu_of hr) (pv 4) pe_str (fun _ _ => rfl)) (pv 5) (set_dict (hu_of hr))))))
      (pss_one (ps_ret (pe_tupI (pa_cons (pe_make T.M_Kettles (ok_Kettles_init T) (hr.mono (by decide)) (by rfl) T.g_Kettles T.b_Kettles_init .nil pass0 (pa_cons (pe_make T.M_Row (ok_Row_init T B) hr (by rfl) T.g_Row T.b_Row_init .nil pass0 (pa_cons (pe_callTy (listI (K := K) rfl) (by rfl) T.b_list (by decide +kernel) (pa_cons (pv 2) pa_nil)) (pa_cons (pe_lstI pa_nil) pa_nil))) pa_nil)) (pa_cons (pv 4) pa_nil)))))))), ?_⟩
  refine ⟨_, rfl, _, rfl, b, n, many, rfl, m1, m8, hB, hn, fun ra f o ks rs H1 hra hf ho lk hr' nd lr rok fb B1 o1 => ?_⟩
  refine ⟨ra, _, rfl, hra, rfl, _, _, rfl, _, _, rfl, rfl, ?_⟩
  refine fun da nda => ?_
  refine ⟨rfl, fun g H2 s2 n2 hg => ?_⟩
  refine fun rd nrd => ?_
  have dr : da ≠ rd := ne_of_none (s2 _ _ upd_same) nrd
  have emk : mergeK [] [(kN "hour", V.int 0), (kN "gone", .ref g), (kN "rows", .ref rd)] = skv 0 (.ref g) rd := by
    unfold skv
    rfl
  have fda : H1 f ≠ none := by rw [hf]; intro z; cases z
  refine ⟨by rw [upd_ne dr]; exact s2 _ _ upd_same, [(kN "hour", .int 0), (kN "gone", .ref g), (kN "rows", .ref rd)], rfl, (by show 3 ≤ 15; decide), ?_⟩
  rw [emk]
  have sA : Same H1 (upd (upd H2 rd (.dK [])) da (.dK (skv 0 (.ref g) rd))) := fun a u e => by
    have n1 : a ≠ da := fun z => by rw [z, nda] at e; cases e
    rw [upd_ne n1]
    have e2 := s2 _ _ (show (upd H1 da (.dK [])) a = some u by rw [upd_ne n1]; exact e)
    rw [upd_ne (fun z => by rw [z, nrd] at e2; cases e2)]
    exact e2
  have hda : (upd (upd H2 rd (.dK [])) da (.dK (skv 0 (.ref g) rd))) da = some (.dK (skv 0 (.ref g) rd)) := upd_same
  have hrd : (upd (upd H2 rd (.dK [])) da (.dK (skv 0 (.ref g) rd))) rd = some (.dK []) := by rw [upd_ne dr.symm]; exact upd_same
  have gda : g ≠ da := (ne_of_none upd_same n2).symm
  have grd : g ≠ rd := ne_of_none hg nrd
  have hg3 : (upd (upd H2 rd (.dK [])) da (.dK (skv 0 (.ref g) rd))) g = some (.tup [.int 0, .int 1]) := by rw [upd_ne gda, upd_ne grd]; exact hg
  generalize upd (upd H2 rd (.dK [])) da (.dK (skv 0 (.ref g) rd)) = H3 at sA hda hrd hg3 ⊢
  have rdn : H1 rd = none := by
    cases e : H1 rd with
    | none => rfl
    | some u =>
      have e2 := s2 _ _ (show (upd H1 da (.dK [])) rd = some u by rw [upd_ne dr.symm]; exact e)
      rw [nrd] at e2
      cases e2
  have f3 := sA _ _ hf
  have frd : f ≠ rd := fun z => by rw [← z] at rdn; exact fda rdn
  refine ⟨_, rfl, f, rfl, ⟨_, SqL.of f3⟩, ?_⟩
  refine for_list (K := K) (a := f) (xs := ks) (fun i σ H' => ∃ (v5 v6 v7 v8 : Option V) (c : Str → Addr), σ = [some (.ref b), some (.int many), some (.ref f), some (.ref o), some (.ref da), v5, v6, v7, v8] ∧ Off K (· = rd) H3 H' ∧ H' rd = some (.dK (byK kN ((rs.map (·.1)).take i) fun x => .ref (c x))) ∧ (∀ z ∈ rs.take i, LRow K H' (c z.1) (ke0 z.2.1 z.2.2.1 z.2.2.2) ∧ Nw H3 (c z.1)) ∧ ∀ x ∈ (rs.map (·.1)).take i, ∀ y ∈ (rs.map (·.1)).take i, c x = c y → x = y) ⟨none, none, none, none, fun _ => 0, rfl, .refl, hrd, fun z hz => absurd hz List.not_mem_nil, fun x hx => absurd hx List.not_mem_nil⟩ (fun i σ H' _ ⟨_, _, _, _, _, _, oi, _⟩ => SqL.of (oi.lst frd f3)) ?_ ?_
  · rintro i v σ H' hi ⟨v5, v6, v7, v8, c, rfl, oi, hr, rows, inj⟩
    have ilt := (List.getElem?_eq_some_iff.mp hi).1
    obtain ⟨z, hz⟩ : ∃ z, rs[i]? = some z := ⟨_, List.getElem?_eq_getElem (by omega)⟩
    obtain ⟨t, dv, rfl, ht, hm⟩ := ((hr' i v z hi hz).tk (TK.same sA)).tk oi.tk
    refine ⟨t, _, rfl, ht, rfl, _, _, rfl, _, _, rfl, _, _, rfl, _, _, rfl, rfl, ?_⟩
    refine ⟨_, rfl, _, rfl, _, rfl, rfl, fun z1 H4 s4 n4 h4 => ⟨rfl, fun z2 H5 s5 n5 h5 => ⟨rfl, fun L H6 s6 n6 h6 => ?_⟩⟩⟩
    have s46 := s4.trans (s5.trans s6)
    have hda6 := s46 _ _ (oi.dK dr hda)
    have hr6 := s46 _ _ hr
    have tl : ((rs.map (·.1)).take i).length ≤ 8 := by rw [List.length_take, List.length_map]; omega
    refine ⟨_, rfl, da, _, rfl, .inl ⟨_, kN "rows", .inl hda6, rfl, rfl⟩, _, rfl, rd, _, rfl, .inl ⟨_, kN z.1, hr6, rfl, (by rw [byK_len]; exact small' (by omega)), rfl⟩, ?_⟩
    have hx : (rs.map (·.1))[i]? = some z.1 := by rw [List.getElem?_map, hz] <;> rfl
    have nx : z.1 ∉ (rs.map (·.1)).take i := fun w => by
      have nd2 : ((rs.map (·.1)).take (i + 1)).Nodup := (List.take_sublist _ _).nodup nd
      rw [take_one hx, List.nodup_append] at nd2
      exact nd2.2.2 _ w _ (List.mem_singleton.mpr rfl) rfl
    rw [byK_put kN_inj]
    have ea : addK ((rs.map (·.1)).take i) z.1 = (rs.map (·.1)).take (i + 1) := by
      unfold addK
      rw [if_neg nx, take_one hx]
    have es : set1 (fun x => V.ref (c x)) z.1 (.ref L) = fun x => .ref (set1 c z.1 L x) := by
      funext y
      by_cases e : y = z.1
      · rw [e, set1_same, set1_same]
      · rw [set1_ne e, set1_ne e]
    rw [ea, es]
    have op : Off K (· = rd) H6 (upd H6 rd (.dK (byK kN ((rs.map (·.1)).take (i + 1)) fun x => .ref (set1 c z.1 L x)))) := .put hr6 .dK rfl
    have hput : (upd H6 rd (.dK (byK kN ((rs.map (·.1)).take (i + 1)) fun x => .ref (set1 c z.1 L x)))) rd = some (.dK (byK kN ((rs.map (·.1)).take (i + 1)) fun x => .ref (set1 c z.1 L x))) := upd_same
    generalize upd H6 rd _ = H7 at op hput ⊢
    have o7 : Off K (· = rd) H' H7 := (Off.same s46).seq op
    have Lrd : L ≠ rd := (ne_of_none ((s4.trans s5) _ _ hr) n6).symm
    have cL : ∀ w ∈ rs.take i, c w.1 ≠ L := fun w hw e => by
      obtain ⟨⟨mv, sv, wv, k1, _⟩, _⟩ := rows w hw
      have k2 := (s4.trans s5) _ _ k1
      rw [e, n6] at k2
      cases k2
    have crd : ∀ w ∈ rs.take i, c w.1 ≠ rd := fun w hw e => by
      have := (rows w hw).2
      rw [e] at this
      exact this.no hrd .dK
    have mn : ∀ {x : Str}, x ∈ (rs.map (·.1)).take i → ∃ w ∈ rs.take i, w.1 = x := fun {x} hx2 => by
      rw [← List.map_take] at hx2
      obtain ⟨w, hw, e⟩ := List.mem_map.mp hx2
      exact ⟨w, hw, e⟩
    have wz : ∀ w ∈ rs.take i, w.1 ≠ z.1 := fun w hw e => nx (by rw [← e, ← List.map_take]; exact List.mem_map_of_mem hw)
    refine ⟨_, _, _, _, set1 c z.1 L, rfl, oi.seq o7, hput, fun w hw => ?_, fun x hx1 y hy1 e => ?_⟩
    · rw [take_one hz, List.mem_append, List.mem_singleton] at hw
      rcases hw with hw | rfl
      · rw [set1_ne (wz w hw)]
        exact ⟨(rows w hw).1.off o7 (crd w hw), (rows w hw).2⟩
      · rw [set1_same]
        refine ⟨LRow.off (R := (· = rd)) ⟨dv, .ref z1, .ref z2, h6, ?_, ⟨z1, rfl, FrQ.int (z := 0) ((s5.trans s6) _ _ h4)⟩, ⟨z2, rfl, FrQ.int (z := 0) (s6 _ _ h5)⟩⟩ op Lrd, ?_⟩
        · exact hm.tk (TK.same s46)
        · exact Nw.back (R := (· = rd)) (K := K) (oi.seq (.same (s4.trans s5))) Lrd (.of n6)
    · rw [take_one hx, List.mem_append, List.mem_singleton] at hx1 hy1
      rcases hx1 with hx1 | hx1 <;> rcases hy1 with hy1 | hy1
      · obtain ⟨w, hw, rfl⟩ := mn hx1
        obtain ⟨w2, hw2, rfl⟩ := mn hy1
        rw [set1_ne (wz w hw), set1_ne (wz w2 hw2)] at e
        exact inj _ hx1 _ hy1 e
      · obtain ⟨w, hw, rfl⟩ := mn hx1
        rw [hy1, set1_ne (wz w hw), set1_same] at e
        exact absurd e (cL w hw)
      · obtain ⟨w, hw, rfl⟩ := mn hy1
        rw [hx1, set1_ne (wz w hw), set1_same] at e
        exact absurd e.symm (cL w hw)
      · rw [hx1, hy1]
  · rintro σ H' ⟨v5, v6, v7, v8, c, rfl, oi, hr, rows, inj⟩
    have e0 : (rs.map (·.1)).length = ks.length := by rw [List.length_map]; omega
    have e1 : rs.take ks.length = rs := List.take_of_length_le (by omega)
    rw [← e0, List.take_length] at hr inj
    rw [e1] at rows
    have fH := oi.lst frd f3
    have hrk : ∀ (j : Nat) (v : V) (z : RK), ks[j]? = some v → rs[j]? = some z → RkAt K H' v z := fun j v z a e => ((hr' j v z a e).tk (TK.same sA)).tk oi.tk
    have rdb : rd ≠ b := B1.new rdn
    have nwrd : Nw H rd := Nw.back o1 rdb (.of rdn)
    have oH' : Off K (· = b) H H' := (o1.seq (.same sA)).trans oi fun a z => .inr (by rw [z]; exact nwrd)
    have l9 : (rs.map (·.1)).length ≤ 1000 := by rw [List.length_map]; omega
    have lk0 : ∀ st : Str → Ke, KtOf st rs → LKAt K H' ⟨da, rd, c⟩ (rs.map (·.1)) ⟨st, 0, 0⟩ := fun st kt => ⟨⟨.ref g, oi.dK dr hda, g, rfl, (FrQ.int (z := 0) hg3).tk oi.tk⟩, hr, fun x hx => by
      obtain ⟨z, hz, rfl⟩ := List.mem_map.mp hx
      show LRow K H' (c z.1) (st z.1)
      rw [kt z hz]
      exact (rows z hz).1, inj, dr, l9⟩
    refine ⟨_, rfl, f, ks, rfl, .inl (SqL.of fH), fun kl Ha sa na ha => ⟨rfl, fun ol Hb sb nb hb => ?_⟩⟩
    have sab := sa.trans sb
    refine fun x dx nx ndx ne => ?_
    have sm : Same Hb (upd (upd Hb dx (.own x)) x (.ins T.C_Row dx [])) := make_same nx ndx
    refine ⟨x, dx, kl, ol, [], ks, [], rs.map (·.1), [], rs.map (fun z => .tuple [.str z.1, .int z.2.1, .int z.2.2.1, dq z.2.2.2]), rfl, upd_same, .inl (SqL.of (sm _ _ (sb _ _ ha))), ⟨by rw [List.length_map]; omega, by rw [List.length_map]; omega, fun j v y d a c2 e => ?_⟩, .inl (SqL.of (sm _ _ hb)), ⟨rfl, rfl, fun j v y d a _ _ => by simp at a⟩, by show 0 ≤ 40; decide, by omega, by omega, by rw [List.append_nil]; exact nd, ?_, fun k2 m2 H9 hx9 hk9 hm9 f9 => ⟨rfl, ?_⟩⟩
    · rw [List.getElem?_map] at c2 e
      cases e2 : rs[j]? with
      | none => rw [e2] at c2; cases c2
      | some z =>
        rw [e2] at c2 e
        cases c2
        cases e
        exact rk_ket ((hrk j v z a e2).tk (TK.same (sab.trans sm))) (rok z (List.mem_of_getElem? e2))
    · exact ((oH'.seq (.same sab)).tbs hT).same sm
    have s89 : Sm Hb H9 := make_sm (nx := nx) (ndx := ndx) f9
    have oH9 : Off K (· = b) H H9 := (oH'.seq (.same sab)).seq (.sm s89)
    have o9 : Off K (fun _ => False) H' H9 := (Off.same sab).seq (.sm s89)
    have hr3 : H9 x = some (.ins T.C_Row dx (rfs k2 m2)) := hx9
    refine fun p dp np ndp nep => ?_
    have s34 : Same H9 (upd (upd H9 dp (.own p)) p (.ins T.C_Kettles dp [])) := make_same np ndp
    refine ⟨p, dp, x, dx, k2, m2, ks, rs, rfl, upd_same, s34 _ _ hr3, Same.tup s34 hk9, by omega, fun j v z a e => ((hrk j v z a e).tk o9.tk).tk (TK.same s34), nd, by omega, fun Ad st H5 eA hk kt o5 nwq => ⟨rfl, ?_⟩⟩
    generalize upd (upd H9 dp (.own p)) p (.ins T.C_Kettles dp []) = HX at s34 o5 nwq
    refine ⟨_, rfl, rfl, fun a H6 s6 n6 h6 => ?_⟩
    have lk9 := (lk0 st kt).off o9 (fun _ _ => id) id
    have th : ∀ a, LKQ ⟨da, rd, c⟩ (rs.map (·.1)) a → ∃ u, H9 a = some u ∧ Chg u := fun a r => by
      rcases r with r | r
      · exact lk9.there r
      · rw [r]; exact ⟨_, lk9.r, .dK⟩
    have np9 : ∀ a, LKQ ⟨da, rd, c⟩ (rs.map (·.1)) a → a ≠ p := fun a r e => by
      obtain ⟨u, hu, _⟩ := th a r
      rw [e, np] at hu
      cases hu
    have B' : BoxAt H' b (n + 70) := oi.boxAt rdb.symm (B1.same sA)
    have B9 : BoxAt H9 b (n + 70) := o9.boxAt id B'
    have pb : p ≠ b := B9.new np
    have nwp : Nw H p := Nw.back oH9 pb (.of np)
    have oHX := oH9.seq (.same s34)
    obtain ⟨bx, hbx⟩ := box_lst (B9.same s34)
    have oH5 : Off K (· = b) H H5 := oHX.trans o5 fun a z => .inr (by rw [z]; exact nwp)
    have lk5 : LKAt K H5 ⟨da, rd, c⟩ (rs.map (·.1)) ⟨st, 0, 0⟩ := (lk9.same s34).off o5 (fun a r e => np9 a (.inl r) e) (np9 _ (.inr rfl))
    have B5 : BoxAt H5 b (n + 70) := o5.boxAt pb.symm (B9.same s34)
    obtain ⟨bx3, hbx3⟩ := box_lst (B1.same sA)
    subst eA
    refine q a Ad ⟨da, rd, c⟩ (rs.map (·.1)) ⟨st, 0, 0⟩ H6 (SqT.of h6) (hk.same s6) (lk5.same s6) (begun_inv kt rok (by omega)) nd (by rw [List.length_map]; exact lr) (fun y hy => ?_) (fun a2 r => ⟨fun r2 => ?_, ?_⟩) (fun a2 r => ?_) (B5.same s6) (oH5.seq (.same s6))
    · obtain ⟨z, hz, rfl⟩ := List.mem_map.mp hy
      exact (rok z hz).nm.nm.lay
    · obtain ⟨u, hu, cu⟩ := th a2 r2
      rcases nwq a2 r with e | e
      · exact np9 a2 r2 e
      · exact e.no (s34 _ _ hu) cu
    · rcases nwq a2 r with e | e
      · rw [e]; exact nwp
      · exact Nw.back oHX (e.ne hbx .lst) e
    · rcases r with (e | ⟨y, hy, e⟩) | e
      · rw [show a2 = da from e]
        exact Nw.back o1 (B1.new nda) (.of nda)
      · rw [show a2 = c y from e]
        obtain ⟨z, hz, rfl⟩ := List.mem_map.mp hy
        have k := (rows z hz).2
        exact Nw.back (o1.seq (.same sA)) (k.ne hbx3 .lst) k
      · rw [show a2 = rd from e]
        exact nwrd

end
end KR
namespace KR
open PySem PySem.Spec PyProof.Rows L2
section
variable {P : Program} {w : World} {K : PySem.W.Frag} {mg : Str → Option Value} {base : Heap}
def sp_kleast (K : PySem.W.Frag) : Sp := fun vs H Q _ => ∃ (c : Addr) (k : Ke), vs = [.ref c] ∧ LRow K H c k ∧ MOk k.mark ∧ Big k.s ∧ ∀ z H', Same H H' → FrQ K H' z (wat k.s k.mark) → Q (.ref z) H'
theorem ok_l_least (T : All K mg) : FnOk P w K mg base CX0 3 T.f_l_least T.fd_l_least ["_law_row_here"] (sp_kleast K) := by
  refine T.d_l_least.fn.ok sc_l_least (fun vs H Q E h => ?_) (fun cdv A outer s H vs Q E hr h => ?_)
  · obtain ⟨c, k, rfl, _⟩ := h
    rfl
  · obtain ⟨c, k, rfl, ⟨mv, sv, wv, h1, ⟨m, rfl, hm⟩, ⟨sa, rfl, hs⟩, h4⟩, mo, bs, q⟩ := h
    refine ⟨_, (pss_one (ps_ret (pe_call (ok_l_by T) hr (by rfl) T.d_l_by.mg T.d_l_by.fn.kp T.d_l_by.b .nil pass0 (pa_cons (pe_ix (ixL (K := K) rfl) (pv 0) pe_int (fun _ _ => rfl)) (pa_cons (pe_call (ok_l_low T) (hr.mono (by decide)) (by rfl) T.d_l_low.mg T.d_l_low.fn.kp T.d_l_low.b .nil pass0 (pa_cons (pe_op op_sub (pe_ix (ixT (K := K) rfl) (pe_ix (ixL (K := K) rfl) (pv 0) pe_int (fun _ _ => rfl)) pe_int (fun _ _ => rfl)) (pe_ix (ixT (K := K) rfl) (pe_ix (ixL (K := K) rfl) (pv 0) pe_int (fun _ _ => rfl)) pe_int (fun _ _ => rfl))) (pa_cons (pe_ix (ixT (K := K) rfl) (pe_ix (ixL (K := K) rfl) (pv 0) pe_int (fun _ _ => rfl)) pe_int (fun _ _ => rfl)) pa_nil))) pa_nil))))), ?_⟩
    have hm' : SqT K H m [.int k.mark.num, .int (k.mark.den : Int)] := hm
    obtain ⟨n0, n1⟩ := mo.num
    have d := mo.ud
    obtain ⟨pe, pz⟩ := mo.per
    refine ⟨_, rfl, c, _, 3, _, rfl, rfl, SqL.of h1, at3, ?_⟩
    refine ⟨_, rfl, c, _, 2, _, rfl, rfl, SqL.of h1, at2, m, _, 1, _, rfl, rfl, hm', at1, ?_⟩
    refine ⟨_, rfl, c, _, 2, _, rfl, rfl, SqL.of h1, at2, m, _, 0, _, rfl, rfl, hm', at0, _, _, rfl, rfl, ?_⟩
    refine ⟨_, rfl, c, _, 2, _, rfl, rfl, SqL.of h1, at2, m, _, 0, _, rfl, rfl, hm', at0, ?_⟩
    refine ⟨_, _, rfl, by omega, lt_up (show ((k.mark.den : Int) - k.mark.num).natAbs < 2 ^ 20 by omega) (by decide), lt_up (show k.mark.num.natAbs < 2 ^ 20 by omega) (by decide), fun l H1 s1 n1' hl => ?_⟩
    refine ⟨sa, l, k.s, _, rfl, hs.same s1, hl, bs, pz.up (by decide), trivial, fun z H2 s2 n2 h2 => ?_⟩
    have h2 : FrQ K H2 z (k.s * rq ((k.mark.den : Int) - k.mark.num) k.mark.num) := h2
    rw [pe, wat_per mo.ne] at h2
    exact q z H2 (s1.trans s2) h2

end
end KR
namespace KR
open PySem PySem.Spec PyProof.Rows L2
section
variable {P : Program} {w : World} {K : PySem.W.Frag} {mg : Str → Option Value} {base : Heap}
def sp_klboil (K : PySem.W.Frag) : Sp := fun vs H Q _ => ∃ (B : LKA) (nms : List Str) (S : KS) (h : Nat), vs = [.ref B.a, .int h] ∧ LKAt K H B nms S ∧ nms.Nodup ∧ (∀ x ∈ nms, KBig (S.st x) h ∧ MOk (S.st x).mark) ∧ (∀ i, i ≤ nms.length → Big (goff h S.st (nms.take i) S.gone)) ∧ ∀ H', LKAt K H' B nms (S.boil nms h) → Off K (B.R nms) H H' → Q .non H'
theorem ok_l_boil (T : All K mg) : FnOk P w K mg base CX0 4 T.f_l_boil T.fd_l_boil ["_law_state", "_law_hours"] (sp_klboil K) := by
  refine T.d_l_boil.fn.ok sc_l_boil (fun vs H Q E h => ?_) (fun cdv A outer s H vs Q E hr h => ?_)
  · obtain ⟨B, nms, S, h, rfl, _⟩ := h
    rfl
  · obtain ⟨Bd, nms, S, h, rfl, hk, nd, kbg, gb, q⟩ := h
    refine ⟨_, (pss_cons (ps_lock (ps_for PassesOwn.never rfl (pi_values (pe_dget (hu_of hr) (pv 0) pe_str (fun _ _ => rfl))) (pg_name (i := 2) sc_l_boil.nd rfl (by first | exact Or.inl rfl | exact Or.inr rfl)) (pss_cons (ps_par (i := 3) (j := 4) (by rfl) sc_l_boil.nd rfl rfl (by decide) rfl rfl (pa_cons (pe_call (ok_l_least T) hr (by rfl) T.d_l_least.mg T.d_l_least.fn.kp T.d_l_least.b .nil pass0 (pa_cons (pv 2) pa_nil)) (pa_cons (pe_ix (ixL (K := K) rfl) (pv 2) pe_int (fun _ _ => rfl)) pa_nil)) (by rfl))
      (pss_one (ps_if (PW.pt (pw_and (pt_val (pe_ix (ixL (K := K) rfl) (pv 2) pe_int (fun _ _ => rfl))) (pw_and1 (pt_val (pe_call (ok_l_less T) (hr.mono (by decide)) (by rfl) T.d_l_less.mg T.d_l_less.fn.kp T.d_l_less.b .nil pass0 (pa_cons (pv 3) (pa_cons (pv 4) pa_nil))))))) (pss_cons (ps_set (i := 5) sc_l_boil.nd rfl (by first | exact Or.inl rfl | exact Or.inr rfl) (pe_call (ok_l_minus T) hr (by rfl) T.d_l_minus.mg T.d_l_minus.fn.kp T.d_l_minus.b .nil pass0 (pa_cons (pv 4) (pa_cons (pe_tupI (pa_cons (pe_op op_mulX (pe_ix (ixL (K := K) rfl) (pv 2) pe_int (fun _ _ => rfl)) (pv 1)) (pa_cons pe_int pa_nil))) pa_nil))))
      (pss_cons (ps_J (ps_asg (pe_ifExp (pt_val (pe_call (ok_l_less T) (hr.mono (by decide)) (by rfl) T.d_l_less.mg T.d_l_less.fn.kp T.d_l_less.b .nil pass0 (pa_cons (pv 5) (pa_cons (pv 3) pa_nil)))) (pv 3) (pv 5)) (pg_sub (pv 2) pe_int set_list)))
      (pss_one (ps_asg (pe_call (ok_l_plus T) (hr.mono (by decide)) (by rfl) T.d_l_plus.mg T.d_l_plus.fn.kp T.d_l_plus.b .nil pass0 (pa_cons (pe_dget (hu_of hr) (pv 0) pe_str (fun _ _ => rfl)) (pa_cons (pe_call (ok_l_minus T) hr (by rfl) T.d_l_minus.mg T.d_l_minus.fn.kp T.d_l_minus.b .nil pass0 (pa_cons (pv 4) (pa_cons (pe_ix (ixL (K := K) rfl) (pv 2) pe_int (fun _ _ => rfl)) pa_nil))) pa_nil))) (pg_sub (pv 0) pe_str (set_dict (hu_of hr))))))) pss_nil)))))
      (pss_one (ps_asg (pe_op op_add (pe_dget (hu_of hr) (pv 0) pe_str (fun _ _ => rfl)) (pv 1)) (pg_sub (pv 0) pe_str (set_dict (hu_of hr)))))), ?_⟩
    obtain ⟨gv0, ha0, hg0⟩ := hk.a
    refine ⟨Bd.r, _, hk.r, trivial, fun od => ?_⟩
    generalize eL : upd H Bd.r (HO.frz od _) = L
    have gL : L Bd.r = some (.frz od (.dK (byK kN nms fun x => .ref (Bd.c x)))) := by rw [← eL]; exact upd_same
    have tL : TK K H L := by rw [← eL]; exact tk_lock hk.r
    have aL : L Bd.a = some (.dK (skv S.hour gv0 Bd.r)) := by
      rw [← eL, upd_ne hk.ar]
      exact ha0
    have cL : ∀ x ∈ nms, LRow K L (Bd.c x) (S.st x) := fun x hx => by
      obtain ⟨mv, sv, wv, k1, k2, k3, k4⟩ := hk.row x hx
      refine ⟨mv, sv, wv, ?_, k2.tk tL, k3.tk tL, k4.tk tL⟩
      rw [← eL, upd_ne (hk.rc hx).symm]
      exact k1
    refine ⟨_, rfl, Bd.a, _, rfl, .inl ⟨_, kN "rows", .inl aL, rfl, rfl⟩, Bd.r, od, _, rfl, gL, ?_⟩
    refine for_vals (fun i σ H' => ∃ (x2 x3 x4 x5 : Option V) (gv : V), σ = [some (.ref Bd.a), some (.int h), x2, x3, x4, x5] ∧ H' Bd.r = some (.frz od (.dK (byK kN nms fun x => .ref (Bd.c x)))) ∧ H' Bd.a = some (.dK (skv S.hour gv Bd.r)) ∧ FQ K H' gv (goff h S.st (nms.take i) S.gone) ∧ (∀ x ∈ nms, LRow K H' (Bd.c x) (if x ∈ nms.take i then kb h (S.st x) else S.st x)) ∧ Off K (Bd.R nms) L H') ⟨none, none, none, none, gv0, rfl, gL, aL, hg0.tk tL, fun x hx => cL x hx, .refl⟩ (fun i σ H' _ ⟨_, _, _, _, _, _, g, _⟩ => g) ?_ ?_
    · rintro i k v σ H' hi ⟨x2, x3, x4, x5, gv, rfl, g1, p1, f1, c1, o1⟩
      obtain ⟨x, hx, e⟩ := byK_get hi
      cases e
      have hxm := List.mem_of_getElem? hx
      have il := (List.getElem?_eq_some_iff.mp hx).1
      have nx : x ∉ nms.take i := fun z => by
        have nd2 : (nms.take (i + 1)).Nodup := (List.take_sublist _ _).nodup nd
        rw [take_one hx, List.nodup_append] at nd2
        exact nd2.2.2 _ z _ (List.mem_singleton.mpr rfl) rfl
      have cx := c1 x hxm
      rw [if_neg nx] at cx
      obtain ⟨kg, mo⟩ := kbg x hxm
      have mem : ∀ y, y ∈ nms.take (i + 1) ↔ y ∈ nms.take i ∨ y = x := fun y => by rw [take_one hx, List.mem_append, List.mem_singleton]
      have still : ∀ {G : Hp}, Same H' G → kb h (S.st x) = S.st x → FQ K G gv (goff h S.st (nms.take (i + 1)) S.gone) ∧ ∀ y ∈ nms, LRow K G (Bd.c y) (if y ∈ nms.take (i + 1) then kb h (S.st y) else S.st y) := fun {G} sm ek => by
        refine ⟨?_, fun y hy => ?_⟩
        · rw [goff_take hx, ek, show (S.st x).w - (S.st x).w = 0 by grind, Rat.add_zero]
          exact f1.tk (.same sm)
        · by_cases e : y = x
          · rw [if_pos ((mem y).mpr (.inr e)), e, ek]
            exact cx.off (R := fun _ => False) (.same sm) id
          · have := (c1 y hy).off (R := fun _ => False) (.same sm) id
            by_cases z : y ∈ nms.take i
            · rw [if_pos z] at this
              rw [if_pos ((mem y).mpr (.inl z))]
              exact this
            · rw [if_neg z] at this
              rw [if_neg (fun q => (((mem y).mp q).elim z e))]
              exact this
      refine ⟨_, rfl, Bd.c x, S.st x, rfl, cx, mo, kg.s, fun z H2 s2 hz => ?_⟩
      obtain ⟨mv, sv, wv, k1, k2, k3, wa, rfl, k4⟩ := id cx
      have k1' := s2 _ _ k1
      refine ⟨_, rfl, Bd.c x, _, 4, _, rfl, rfl, SqL.of k1', at4, ⟨_, _, rfl, ?_⟩⟩
      refine ⟨_, rfl, Bd.c x, _, 5, _, rfl, rfl, SqL.of k1', at5, _, rfl, ?_⟩
      cases ho : (S.st x).on with
      | false =>
        have ek : kb h (S.st x) = S.st x := if_neg (by rw [ho]; decide)
        obtain ⟨t1, t2⟩ := still s2 ek
        exact ⟨_, _, _, _, gv, rfl, s2 _ _ g1, s2 _ _ p1, t1, t2, o1.seq (.same s2)⟩
      | true =>
        have ek : kb h (S.st x) = { S.st x with w := boil (S.st x).s (S.st x).w (S.st x).fire (S.st x).mark ((h : Int) : Rat) } := if_pos ho
        have k4' := k4.same s2
        refine ⟨_, rfl, _, rfl, z, wa, _, _, rfl, hz, k4', kg.l, kg.w, _, rfl, ?_⟩
        by_cases cw : wat (S.st x).s (S.st x).mark < (S.st x).w
        case neg =>
          rw [decide_eq_false cw]
          have ek2 : kb h (S.st x) = S.st x := by
            rw [ek]
            unfold boil
            rw [if_neg cw]
          obtain ⟨t1, t2⟩ := still s2 ek2
          exact ⟨_, _, _, _, gv, rfl, s2 _ _ g1, s2 _ _ p1, t1, t2, o1.seq (.same s2)⟩
        rw [decide_eq_true cw]
        have hb9 : (h : Int).natAbs < 2 ^ 60 := by have := kg.h9; omega
        refine ⟨_, rfl, _, rfl, Bd.c x, _, 1, _, rfl, rfl, SqL.of k1', at1, _, rfl, _, _, rfl, rfl, mulW kg.f hb9 (by decide) (by decide) (by decide), rfl, fun tt H3 s3 n3 h3 => ?_⟩
        have fq : FrQ K H3 tt (((S.st x).fire : Rat) * ((h : Int) : Rat)) := by
          rw [← Rat.intCast_mul]
          exact FrQ.int h3
        refine ⟨wa, tt, _, _, rfl, k4'.same s3, fq, kg.w, kg.fh, trivial, fun le H4 s4 n4 h4 => ?_⟩
        have s24 := s2.trans (s3.trans s4)
        have h4 : FrQ K H4 le ((S.st x).w - ((S.st x).fire : Rat) * ((h : Int) : Rat)) := h4
        have hz4 := hz.same (s3.trans s4)
        have eb : (kb h (S.st x)).w = if (S.st x).w - ((S.st x).fire : Rat) * ((h : Int) : Rat) < wat (S.st x).s (S.st x).mark then wat (S.st x).s (S.st x).mark else (S.st x).w - ((S.st x).fire : Rat) * ((h : Int) : Rat) := by
          rw [ek]
          show boil _ _ _ _ _ = _
          unfold boil
          rw [if_pos cw]
        have k1'' := s24 _ _ k1
        refine ⟨fun σ' G => ∃ (n : Addr), σ' = [some (.ref Bd.a), some (.int h), some (.ref (Bd.c x)), some (.ref z), some (.ref wa), some (.ref le)] ∧ FrQ K H4 n (kb h (S.st x)).w ∧ G = upd H4 (Bd.c x) (.lst [.int (S.st x).room, .int (S.st x).fire, mv, sv, .ref n, .bl (S.st x).on]), ?_, ?_⟩
        case' refine_2 =>
          refine ⟨_, rfl, _, rfl, le, z, _, _, rfl, h4, hz4, kg.d, kg.l, _, rfl, ?_⟩
          by_cases cc : (S.st x).w - ((S.st x).fire : Rat) * ((h : Int) : Rat) < wat (S.st x).s (S.st x).mark
          · rw [decide_eq_true cc]
            exact ⟨_, rfl, _, rfl, Bd.c x, _, 4, 4, rfl, rfl, k1'', rfl, z, rfl, by rw [eb, if_pos cc]; exact hz4, rfl⟩
          · rw [decide_eq_false cc]
            exact ⟨_, rfl, _, rfl, Bd.c x, _, 4, 4, rfl, rfl, k1'', rfl, le, rfl, by rw [eb, if_neg cc]; exact h4, rfl⟩
        rintro σ' G ⟨n, rfl, hn, rfl⟩
        have oc : Off K (· = Bd.c x) H4 (upd H4 (Bd.c x) (.lst [.int (S.st x).room, .int (S.st x).fire, mv, sv, .ref n, .bl (S.st x).on])) := .put k1'' .lst rfl
        have cx2 : (upd H4 (Bd.c x) (.lst [.int (S.st x).room, .int (S.st x).fire, mv, sv, .ref n, .bl (S.st x).on])) (Bd.c x) = some (.lst [.int (S.st x).room, .int (S.st x).fire, mv, sv, .ref n, .bl (S.st x).on]) := upd_same
        generalize upd H4 (Bd.c x) (.lst [.int (S.st x).room, .int (S.st x).fire, mv, sv, .ref n, .bl (S.st x).on]) = G at oc cx2 ⊢
        have oG : Off K (· = Bd.c x) H' G := (Off.same s24).seq oc
        have tG := oG.tk
        have pG := oG.dK (fun z => hk.ac hxm z) p1
        have gG : G Bd.r = some (.frz od (.dK (byK kN nms fun x => .ref (Bd.c x)))) := oG.keep _ _ (fun z => hk.rc hxm z) g1 nofun
        obtain ⟨gvr, egv, hgv⟩ := id f1
        have wn : FrQ K G wa (S.st x).w := k4.tk tG
        have nn : FrQ K G n (kb h (S.st x)).w := hn.tk oc.tk
        refine ⟨_, rfl, Bd.a, gv, rfl, .inl ⟨_, kN "gone", .inl pG, rfl, rfl⟩, ?_⟩
        refine ⟨_, rfl, _, rfl, Bd.c x, _, 4, _, rfl, rfl, SqL.of cx2, at4, ?_⟩
        have ebw : (kb h (S.st x)).w = boil (S.st x).s (S.st x).w (S.st x).fire (S.st x).mark ((h : Int) : Rat) := by rw [ek]
        refine ⟨wa, n, _, _, rfl, wn, nn, kg.w, by rw [ebw]; exact kg.b, trivial, fun d5 H5 s5 n5 h5 => ?_⟩
        refine ⟨gvr, d5, _, _, by rw [egv] <;> rfl, (hgv.tk tG).same s5, h5, gb i (by omega), by rw [ebw]; exact kg.g, trivial, fun g6 H6 s6 n6 h6 => ?_⟩
        have s56 := s5.trans s6
        have p6 := s56 _ _ pG
        refine ⟨_, rfl, Bd.a, upd H6 Bd.a (.dK (skv S.hour (.ref g6) Bd.r)), rfl, .inl ⟨_, kN "gone", p6, rfl, (by show 3 < sizeLine; exact small' (by decide)), rfl⟩, ?_⟩
        have oa : Off K (· = Bd.a) H6 (upd H6 Bd.a (.dK (skv S.hour (.ref g6) Bd.r))) := .put p6 .dK rfl
        have o67 : Off K (Bd.R nms) H' (upd H6 Bd.a (.dK (skv S.hour (.ref g6) Bd.r))) := ((oG.mono fun a e => .inr ⟨x, hxm, e⟩).seq (.same s56)).seq (oa.mono fun a e => .inl e)
        refine ⟨_, _, _, _, .ref g6, rfl, ?_, upd_same, ⟨g6, rfl, ?_⟩, fun y hy => ?_, o1.seq o67⟩
        · rw [upd_ne hk.ar.symm]
          exact s56 _ _ gG
        · rw [goff_take hx]
          exact (show FrQ K H6 g6 _ from h6).tk oa.tk
        · by_cases e : y = x
          · rw [if_pos ((mem y).mpr (.inr e)), e, ek]
            refine LRow.off (H := H6) ?_ oa (hk.ac hxm).symm
            refine ⟨mv, sv, .ref n, s56 _ _ cx2, (k2.tk tG).tk (.same s56), (k3.tk tG).tk (.same s56), n, rfl, ?_⟩
            have := nn.same s56
            rw [ebw] at this
            exact this
          · have ne : ¬ (Bd.c y = Bd.c x) := fun z => e (hk.ci y hy x hxm z)
            have k' := (((c1 y hy).off oG ne).off (R := fun _ => False) (.same s56) id).off oa (hk.ac hy).symm
            by_cases z : y ∈ nms.take i
            · rw [if_pos z] at k'
              rw [if_pos ((mem y).mpr (.inl z))]
              exact k'
            · rw [if_neg z] at k'
              rw [if_neg (fun q => (((mem y).mp q).elim z e))]
              exact k'
    · rintro σ H' ⟨x2, x3, x4, x5, gv, rfl, g1, p1, f1, c1, o1⟩
      rw [byK_len, List.take_length] at f1 c1
      refine ⟨g1, ?_⟩
      have tU : TK K H' (upd H' Bd.r (.dK (byK kN nms fun x => .ref (Bd.c x)))) := tk_unlock g1
      have ofR : Off K (Bd.R nms) H (upd H' Bd.r (.dK (byK kN nms fun x => .ref (Bd.c x)))) := by
        refine ⟨fun b o nb e nt => ?_, fun b gb => ?_, tL.trans (o1.tk.trans tU)⟩
        · by_cases c : b = Bd.r
          · rw [c, upd_same]
            rw [c, hk.r] at e
            exact e
          · rw [upd_ne c]
            refine o1.keep b o nb ?_ nt
            rw [← eL, upd_ne c]
            exact e
        · have bt : b ≠ Bd.r := gb.elim fun q z y => by rw [y, hk.r] at z; cases z.1
          have g3 : GxR.TabG L b := gb.elim fun q z => ⟨q, by rw [← eL, upd_ne bt]; exact z.1, z.2⟩
          exact (o1.tab b g3).elim fun q z => ⟨q, by rw [upd_ne bt]; exact z.1, z.2⟩
      have pU : (upd H' Bd.r (.dK (byK kN nms fun x => .ref (Bd.c x)))) Bd.a = some (.dK (skv S.hour gv Bd.r)) := by
        rw [upd_ne hk.ar]
        exact p1
      have rU : (upd H' Bd.r (.dK (byK kN nms fun x => .ref (Bd.c x)))) Bd.r = some (.dK (byK kN nms fun x => .ref (Bd.c x))) := upd_same
      have cU : ∀ x ∈ nms, LRow K (upd H' Bd.r (.dK (byK kN nms fun x => .ref (Bd.c x)))) (Bd.c x) (kb h (S.st x)) := fun x hx => by
        have k := c1 x hx
        rw [if_pos hx] at k
        obtain ⟨mv, sv, wv, k1, k2, k3, k4⟩ := k
        refine ⟨mv, sv, wv, ?_, k2.tk tU, k3.tk tU, k4.tk tU⟩
        rw [upd_ne (hk.rc hx).symm]
        exact k1
      have fU := f1.tk tU
      generalize upd H' Bd.r (.dK (byK kN nms fun x => .ref (Bd.c x))) = G at ofR pU rU cU fU
      refine ⟨_, rfl, Bd.a, _, rfl, .inl ⟨_, kN "hour", .inl pU, rfl, rfl⟩, _, rfl, _, _, rfl, rfl, ?_⟩
      refine ⟨_, rfl, Bd.a, upd G Bd.a (.dK (skv ((S.hour + h : Nat) : Int) gv Bd.r)), rfl, .inl ⟨_, kN "hour", pU, rfl, (by show 3 < sizeLine; exact small' (by decide)), rfl⟩, ?_⟩
      have oa : Off K (· = Bd.a) G (upd G Bd.a (.dK (skv ((S.hour + h : Nat) : Int) gv Bd.r))) := .put pU .dK rfl
      exact q _ ⟨⟨gv, upd_same, fU.tk oa.tk⟩, oa.dK hk.ar.symm rU, fun x hx => (cU x hx).off oa (hk.ac hx).symm, hk.ci, hk.ar, hk.ln⟩ (ofR.seq (oa.mono fun a e => .inl e))

end
end KR
namespace KR
open PySem PySem.Spec PyProof.Rows L2
section
variable {P : Program} {w : World} {K : PySem.W.Frag} {mg : Str → Option Value} {base : Heap}
def sp_kfits (K : PySem.W.Frag) : Sp := fun vs H Q _ => ∃ (c j : Addr) (k : Ke) (s w : Rat), vs = [.ref c, .ref j] ∧ LRow K H c k ∧ JuQ K H j s w ∧ VBig k.s k.w s w ∧ Big (k.s + k.w) ∧ Big (s + w) ∧ Big (k.room : Rat) ∧ ∀ H', Same H H' → Q (.bl (!decide (k.full s w))) H'
theorem ok_l_fits (T : All K mg) : FnOk P w K mg base CX0 3 T.f_l_fits T.fd_l_fits ["_law_row_here", "_law_juice_here"] (sp_kfits K) := by
  refine T.d_l_fits.fn.ok sc_l_fits (fun vs H Q E h => ?_) (fun cdv A outer s H vs Q E hr h => ?_)
  · obtain ⟨c, j, k, s, w, rfl, _⟩ := h
    rfl
  · obtain ⟨c, j, k, s, w, rfl, ⟨mv, sv, wv, h1, hm, ⟨sa, rfl, hs⟩, ⟨wa, rfl, hw⟩⟩, ⟨a1, a2, hj, ha1, ha2⟩, vb, b1, b2, rb, q⟩ := h
    refine ⟨_, (pss_cons (ps_set (i := 2) sc_l_fits.nd rfl (by first | exact Or.inl rfl | exact Or.inr rfl) (pe_call (ok_l_plus T) hr (by rfl) T.d_l_plus.mg T.d_l_plus.fn.kp T.d_l_plus.b .nil pass0 (pa_cons (pe_call (ok_l_plus T) hr (by rfl) T.d_l_plus.mg T.d_l_plus.fn.kp T.d_l_plus.b .nil pass0 (pa_cons (pe_ix (ixL (K := K) rfl) (pv 0) pe_int (fun _ _ => rfl)) (pa_cons (pe_ix (ixL (K := K) rfl) (pv 0) pe_int (fun _ _ => rfl)) pa_nil))) (pa_cons (pe_call (ok_l_plus T) hr (by rfl) T.d_l_plus.mg T.d_l_plus.fn.kp T.d_l_plus.b .nil pass0 (pa_cons (pe_ix (ixT (K := K) rfl) (pv 1) pe_int (fun _ _ => rfl)) (pa_cons (pe_ix (ixT (K := K) rfl) (pv 1) pe_int (fun _ _ => rfl)) pa_nil))) pa_nil))))
      (pss_one (ps_ret (pe_not (pe_call (ok_l_less T) (hr.mono (by decide)) (by rfl) T.d_l_less.mg T.d_l_less.fn.kp T.d_l_less.b .nil pass0 (pa_cons (pe_tupI (pa_cons (pe_ix (ixL (K := K) rfl) (pv 0) pe_int (fun _ _ => rfl)) (pa_cons pe_int pa_nil))) (pa_cons (pv 2) pa_nil))))))), ?_⟩
    refine ⟨_, rfl, c, _, 3, _, rfl, rfl, SqL.of h1, at3, _, rfl, c, _, 4, _, rfl, rfl, SqL.of h1, at4, sa, wa, k.s, k.w, rfl, hs, hw, vb.a, vb.b, trivial, fun z1 H1 s1 n1 g1 => ?_⟩
    refine ⟨_, rfl, j, _, 0, _, rfl, rfl, Same.tup s1 hj, at0, _, rfl, j, _, 1, _, rfl, rfl, Same.tup s1 hj, at1, a1, a2, s, w, rfl, ha1.same s1, ha2.same s1, vb.c, vb.d, trivial, fun z2 H2 s2 n2 g2 => ?_⟩
    refine ⟨z1, z2, k.s + k.w, s + w, rfl, (show FrQ K H1 z1 (k.s + k.w) from g1).same s2, g2, b1, b2, trivial, fun z3 H3 s3 n3 g3 => ?_⟩
    have g3 : FrQ K H3 z3 (k.s + k.w + (s + w)) := g3
    have e : k.s + k.w + (s + w) = k.s + s + (k.w + w) := by grind
    rw [e] at g3
    refine ⟨_, rfl, c, _, 0, _, rfl, rfl, SqL.of ((s1.trans (s2.trans s3)) _ _ h1), at0, rfl, fun u H4 s4 n4 h4 => ?_⟩
    refine ⟨_, rfl, u, z3, (k.room : Rat), _, rfl, FrQ.int h4, g3.same s4, rb, vb.g, ?_⟩
    have e2 : decide ((k.room : Rat) < k.s + s + (k.w + w)) = decide (k.full s w) := decide_eq_decide.mpr Iff.rfl
    rw [e2]
    exact ⟨_, rfl, q H4 (s1.trans (s2.trans (s3.trans s4)))⟩

end
end KR
namespace KR
open PySem PySem.Spec PyProof.Rows L2
section
variable {P : Program} {w : World} {K : PySem.W.Frag} {mg : Str → Option Value} {base : Heap}
def sp_kin (K : PySem.W.Frag) : Sp := fun vs H Q _ => ∃ (c j : Addr) (k : Ke) (s w : Rat), vs = [.ref c, .ref j] ∧ LRow K H c k ∧ JuQ K H j s w ∧ Big k.s ∧ Big k.w ∧ Big s ∧ Big w ∧ ∀ H', LRow K H' c (k.inn s w) → Off K (· = c) H H' → Q .non H'
theorem ok_l_in (T : All K mg) : FnOk P w K mg base CX0 3 T.f_l_in T.fd_l_in ["_law_row_here", "_law_juice_here"] (sp_kin K) := by
  refine T.d_l_in.fn.ok sc_l_in (fun vs H Q E h => ?_) (fun cdv A outer s H vs Q E hr h => ?_)
  · obtain ⟨c, j, k, s, w, rfl, _⟩ := h
    rfl
  · obtain ⟨c, j, k, s, w, rfl, ⟨mv, sv, wv, h1, hm, ⟨sa, rfl, hs⟩, ⟨wa, rfl, hw⟩⟩, ⟨a1, a2, hj, ha1, ha2⟩, b1, b2, b3, b4, q⟩ := h
    refine ⟨_, (pss_one (ps_asg (pe_tupI (pa_cons (pe_call (ok_l_plus T) hr (by rfl) T.d_l_plus.mg T.d_l_plus.fn.kp T.d_l_plus.b .nil pass0 (pa_cons (pe_ix (ixL (K := K) rfl) (pv 0) pe_int (fun _ _ => rfl)) (pa_cons (pe_ix (ixT (K := K) rfl) (pv 1) pe_int (fun _ _ => rfl)) pa_nil))) (pa_cons (pe_call (ok_l_plus T) hr (by rfl) T.d_l_plus.mg T.d_l_plus.fn.kp T.d_l_plus.b .nil pass0 (pa_cons (pe_ix (ixL (K := K) rfl) (pv 0) pe_int (fun _ _ => rfl)) (pa_cons (pe_ix (ixT (K := K) rfl) (pv 1) pe_int (fun _ _ => rfl)) pa_nil))) pa_nil))) (pg_tupK (K := K) rfl rfl (pgs_cons (pg_sub (pv 0) pe_int set_list) (pgs_cons (pg_sub (pv 0) pe_int set_list) pgs_nil))))), ?_⟩
    refine ⟨_, rfl, c, _, 3, _, rfl, rfl, SqL.of h1, at3, _, rfl, j, _, 0, _, rfl, rfl, hj, at0, sa, a1, k.s, s, rfl, hs, ha1, b1, b3, trivial, fun z1 H1 s1 n1 g1 => ?_⟩
    refine ⟨_, rfl, c, _, 4, _, rfl, rfl, SqL.of (s1 _ _ h1), at4, _, rfl, j, _, 1, _, rfl, rfl, Same.tup s1 hj, at1, wa, a2, k.w, w, rfl, hw.same s1, ha2.same s1, b2, b4, trivial, fun z2 H2 s2 n2 g2 => ?_⟩
    refine ⟨rfl, fun t H3 s3 n3 h3 => ?_⟩
    have s12 := s1.trans s2
    have s13 := s12.trans s3
    refine ⟨t, _, rfl, SqT.of h3, rfl, _, _, rfl, ⟨_, rfl, c, _, 3, 3, rfl, rfl, s13 _ _ h1, rfl, _, _, rfl, ⟨_, rfl, c, _, 4, 4, rfl, rfl, upd_same, rfl, rfl, ?_⟩⟩⟩
    have of1 : Off K (· = c) H3 _ := .put (s13 _ _ h1) .lst rfl (o2 := .lst [.int k.room, .int k.fire, mv, .ref z1, .ref wa, .bl k.on])
    have of2 : Off K (· = c) H _ := ((Off.same s13).seq of1).seq (.put upd_same .lst rfl (o2 := .lst [.int k.room, .int k.fire, mv, .ref z1, .ref z2, .bl k.on]))
    have tk3 : TK K H3 _ := of1.tk.trans (Off.put (K := K) (R := (· = c)) upd_same .lst rfl (o2 := .lst [.int k.room, .int k.fire, mv, .ref z1, .ref z2, .bl k.on])).tk
    refine q _ ⟨mv, .ref z1, .ref z2, upd_same, hm.tk of2.tk, ⟨z1, rfl, ((show FrQ K H1 z1 (k.s + s) from g1).same (s2.trans s3)).tk tk3⟩, ⟨z2, rfl, ((show FrQ K H2 z2 (k.w + w) from g2).same s3).tk tk3⟩⟩ of2

end
end KR
namespace KR
open PySem PySem.Spec PyProof.Rows L2
section
variable {P : Program} {w : World} {K : PySem.W.Frag} {mg : Str → Option Value} {base : Heap}
def sp_kpart (K : PySem.W.Frag) : Sp := fun vs H Q _ => ∃ (c a : Addr) (k : Ke) (t : Rat), vs = [.ref c, .ref a] ∧ LRow K H c k ∧ FrQ K H a t ∧ Big k.s ∧ Big k.w ∧ Big t ∧ ∀ z H', Same H H' → JuQ K H' z (k.s * t) (k.w * t) → Q (.ref z) H'
theorem ok_l_part (T : All K mg) : FnOk P w K mg base CX0 3 T.f_l_part T.fd_l_part ["_law_row_here", "_law_share_here"] (sp_kpart K) := by
  refine T.d_l_part.fn.ok sc_l_part (fun vs H Q E h => ?_) (fun cdv A outer s H vs Q E hr h => ?_)
  · obtain ⟨c, a, k, t, rfl, _⟩ := h
    rfl
  · obtain ⟨c, a, k, t, rfl, ⟨mv, sv, wv, h1, hm, ⟨sa, rfl, hs⟩, ⟨wa, rfl, hw⟩⟩, ha, b1, b2, b3, q⟩ := h
    refine ⟨_, (pss_one (ps_ret (pe_tupI (pa_cons (pe_call (ok_l_by T) hr (by rfl) T.d_l_by.mg T.d_l_by.fn.kp T.d_l_by.b .nil pass0 (pa_cons (pe_ix (ixL (K := K) rfl) (pv 0) pe_int (fun _ _ => rfl)) (pa_cons (pv 1) pa_nil))) (pa_cons (pe_call (ok_l_by T) hr (by rfl) T.d_l_by.mg T.d_l_by.fn.kp T.d_l_by.b .nil pass0 (pa_cons (pe_ix (ixL (K := K) rfl) (pv 0) pe_int (fun _ _ => rfl)) (pa_cons (pv 1) pa_nil))) pa_nil))))), ?_⟩
    refine ⟨_, rfl, c, _, 3, _, rfl, rfl, SqL.of h1, at3, _, rfl, sa, a, k.s, t, rfl, hs, ha, b1, b3, trivial, fun z1 H1 s1 n1 g1 => ?_⟩
    refine ⟨_, rfl, c, _, 4, _, rfl, rfl, SqL.of (s1 _ _ h1), at4, _, rfl, wa, a, k.w, t, rfl, hw.same s1, ha.same s1, b2, b3, trivial, fun z2 H2 s2 n2 g2 => ⟨rfl, fun z H3 s3 n3 h3 => ?_⟩⟩
    exact q z H3 (s1.trans (s2.trans s3)) (.new h3 ((show FrQ K H1 z1 (k.s * t) from g1).same (s2.trans s3)) ((show FrQ K H2 z2 (k.w * t) from g2).same s3))

end
end KR
namespace KR
open PySem PySem.Spec PyProof.Rows L2
section
variable {P : Program} {w : World} {K : PySem.W.Frag} {mg : Str → Option Value} {base : Heap}
def sp_kout (K : PySem.W.Frag) : Sp := fun vs H Q _ => ∃ (c a : Addr) (k : Ke) (t : Rat), vs = [.ref c, .ref a] ∧ LRow K H c k ∧ FrQ K H a t ∧ Big k.s ∧ Big k.w ∧ Big t ∧ Big (k.s * t) ∧ Big (k.w * t) ∧ ∀ z H', LRow K H' c (k.out t) → JuQ K H' z (k.s * t) (k.w * t) → Off K (· = c) H H' → Q (.ref z) H'
theorem ok_l_out (T : All K mg) : FnOk P w K mg base CX0 4 T.f_l_out T.fd_l_out ["_law_row_here", "_law_share_here"] (sp_kout K) := by
  refine T.d_l_out.fn.ok sc_l_out (fun vs H Q E h => ?_) (fun cdv A outer s H vs Q E hr h => ?_)
  · obtain ⟨c, a, k, t, rfl, _⟩ := h
    rfl
  · obtain ⟨c, a, k, t, rfl, hrow, ha, b1, b2, b3, b4, b5, q⟩ := h
    refine ⟨_, (pss_cons (ps_set (i := 2) sc_l_out.nd rfl (by first | exact Or.inl rfl | exact Or.inr rfl) (pe_call (ok_l_part T) hr (by rfl) T.d_l_part.mg T.d_l_part.fn.kp T.d_l_part.b .nil pass0 (pa_cons (pv 0) (pa_cons (pv 1) pa_nil))))
      (pss_cons (ps_asg (pe_tupI (pa_cons (pe_call (ok_l_minus T) hr (by rfl) T.d_l_minus.mg T.d_l_minus.fn.kp T.d_l_minus.b .nil pass0 (pa_cons (pe_ix (ixL (K := K) rfl) (pv 0) pe_int (fun _ _ => rfl)) (pa_cons (pe_ix (ixT (K := K) rfl) (pv 2) pe_int (fun _ _ => rfl)) pa_nil))) (pa_cons (pe_call (ok_l_minus T) hr (by rfl) T.d_l_minus.mg T.d_l_minus.fn.kp T.d_l_minus.b .nil pass0 (pa_cons (pe_ix (ixL (K := K) rfl) (pv 0) pe_int (fun _ _ => rfl)) (pa_cons (pe_ix (ixT (K := K) rfl) (pv 2) pe_int (fun _ _ => rfl)) pa_nil))) pa_nil))) (pg_tupK (K := K) rfl rfl (pgs_cons (pg_sub (pv 0) pe_int set_list) (pgs_cons (pg_sub (pv 0) pe_int set_list) pgs_nil))))
      (pss_one (ps_ret (pv 2))))), ?_⟩
    refine ⟨_, rfl, _, rfl, c, a, k, t, rfl, hrow, ha, b1, b2, b3, fun j H1 s1 hj => ?_⟩
    obtain ⟨mv, sv, wv, h0, hm, ⟨sa, rfl, hs⟩, ⟨wa, rfl, hw⟩⟩ := hrow
    have h1 := s1 _ _ h0
    obtain ⟨a1, a2, hjj, ha1, ha2⟩ := id hj
    refine ⟨_, rfl, c, _, 3, _, rfl, rfl, SqL.of h1, at3, _, rfl, j, _, 0, _, rfl, rfl, hjj, at0, sa, a1, k.s, k.s * t, rfl, hs.same s1, ha1, b1, b4, trivial, fun z1 H2 s2 n2 g1 => ?_⟩
    refine ⟨_, rfl, c, _, 4, _, rfl, rfl, SqL.of (s2 _ _ h1), at4, _, rfl, j, _, 1, _, rfl, rfl, Same.tup s2 hjj, at1, wa, a2, k.w, k.w * t, rfl, (hw.same s1).same s2, ha2.same s2, b2, b5, trivial, fun z2 H3 s3 n3 g2 => ?_⟩
    refine ⟨rfl, fun u H4 s4 n4 h4 => ?_⟩
    have s24 := s2.trans (s3.trans s4)
    have h1' := s24 _ _ h1
    refine ⟨u, _, rfl, SqT.of h4, rfl, _, _, rfl, ⟨_, rfl, c, _, 3, 3, rfl, rfl, h1', rfl, _, _, rfl, ⟨_, rfl, c, _, 4, 4, rfl, rfl, upd_same, rfl, rfl, ?_⟩⟩⟩
    have of1 : Off K (· = c) H4 _ := .put h1' .lst rfl (o2 := .lst [.int k.room, .int k.fire, mv, .ref z1, .ref wa, .bl k.on])
    have of2 : Off K (· = c) H4 _ := of1.seq (.put upd_same .lst rfl (o2 := .lst [.int k.room, .int k.fire, mv, .ref z1, .ref z2, .bl k.on]))
    have of : Off K (· = c) H _ := (Off.same (s1.trans s24)).seq of2
    have e1 : k.s - k.s * t = k.s * (1 - t) := by grind
    have e2 : k.w - k.w * t = k.w * (1 - t) := by grind
    have g1 : FrQ K H2 z1 (k.s - k.s * t) := g1
    have g2 : FrQ K H3 z2 (k.w - k.w * t) := g2
    rw [e1] at g1
    rw [e2] at g2
    exact ⟨_, rfl, q j _ ⟨mv, .ref z1, .ref z2, upd_same, hm.tk of.tk, ⟨z1, rfl, (g1.same (s3.trans s4)).tk of2.tk⟩, ⟨z2, rfl, (g2.same s4).tk of2.tk⟩⟩ ((hj.same s24).tk of2.tk) of⟩

end
end KR
namespace KR
open PySem PySem.Spec PyProof.Rows L2
section
variable {P : Program} {w : World} {K : PySem.W.Frag} {mg : Str → Option Value} {base : Heap}
def sp_kshare (K : PySem.W.Frag) : Sp := fun vs H Q _ => ∃ (a : Addr) (t : Rat), vs = [.ref a] ∧ FrQ K H a t ∧ (∀ b : Bool, (b = true ↔ ShOk t) → Q (.bl b) H)
theorem ok_l_is_share (T : All K mg) : FnOk P w K mg base CX0 1 T.f_l_is_share T.fd_l_is_share ["_law_share_here"] (sp_kshare K) := by
  refine T.d_l_is_share.fn.ok sc_l_is_share (fun vs H Q E h => ?_) (fun cdv A outer s H vs Q E hr h => ?_)
  · obtain ⟨a, t, rfl, _⟩ := h
    rfl
  · obtain ⟨a, t, rfl, ha, q⟩ := h
    refine ⟨_, (pss_one (ps_ret (pe_chain3 op_lt op_le op_lt pe_int (pe_ix (ixT (K := K) rfl) (pv 0) pe_int (fun _ _ => rfl)) (pe_ix (ixT (K := K) rfl) (pv 0) pe_int (fun _ _ => rfl)) pe_int))), ?_⟩
    have ha' : SqT K H a [.int t.num, .int (t.den : Int)] := ha
    refine ⟨_, rfl, a, _, 0, _, rfl, rfl, ha', at0, _, _, rfl, rfl, _, rfl, ?_⟩
    by_cases c1 : (0 : Int) < t.num
    case neg =>
      rw [decide_eq_false c1]
      exact q false ⟨fun z => (by cases z), fun z => absurd z.1 c1⟩
    rw [decide_eq_true c1]
    refine ⟨_, rfl, a, _, 1, _, rfl, rfl, ha', at1, _, _, rfl, rfl, _, rfl, ?_⟩
    by_cases c2 : t.num ≤ (t.den : Int)
    case neg =>
      rw [decide_eq_false c2]
      exact q false ⟨fun z => (by cases z), fun z => absurd z.2.1 c2⟩
    rw [decide_eq_true c2]
    refine ⟨_, _, rfl, rfl, ?_⟩
    exact q _ ⟨fun z => ⟨c1, c2, by have := of_decide_eq_true z; omega⟩, fun z => decide_eq_true (by have := z.2.2; omega)⟩

end
end KR
namespace KR
open PySem PySem.Spec PyProof.Rows L2
section
variable {P : Program} {w : World} {K : PySem.W.Frag} {mg : Str → Option Value} {base : Heap}
def sp_kdf (K : PySem.W.Frag) : Sp := fun vs H Q _ => ∃ (B : LKA) (nms : List Str) (S : KS) (x : Str) (a : Addr) (t : Rat), vs = [.ref B.a, .str x, .ref a] ∧ LKAt K H B nms S ∧ x ∈ nms ∧ PyData.canLay0 (.str x) = true ∧ FrQ K H a t ∧
  (¬ ShOk t → RefAt K H Q "share" (dq t)) ∧ (ShOk t → (S.st x).nil → RefAt K H Q "empty" (.str x)) ∧ (ShOk t → ¬ (S.st x).nil → ∀ H', Same H H' → Q .non H')
theorem ok_l_dip_fault (T : All K mg) : FnOk P w K mg base CX0 2 T.f_l_dip_fault T.fd_l_dip_fault ["_law_state", "_law_kettle", "_law_share_here"] (sp_kdf K) := by
  refine T.d_l_dip_fault.fn.ok sc_l_dip_fault (fun vs H Q E h => ?_) (fun cdv A outer s H vs Q E hr h => ?_)
  · obtain ⟨B, nms, S, x, a, t, rfl, _⟩ := h
    rfl
  · obtain ⟨Bd, nms, S, x, a, t, rfl, hk, hx, lx, ha, w1, w2, w3⟩ := h
    refine ⟨_, (pss_cons (ps_if (pt_not (pt_val (pe_call (ok_l_is_share T) hr (by rfl) T.d_l_is_share.mg T.d_l_is_share.fn.kp T.d_l_is_share.b .nil pass0 (pa_cons (pv 2) pa_nil)))) (pss_one (ps_ret (pe_tupI (pa_cons pe_str (pa_cons pe_str (pa_cons (pv 2) pa_nil)))))) pss_nil)
      (pss_cons (ps_set (i := 3) sc_l_dip_fault.nd rfl (by first | exact Or.inl rfl | exact Or.inr rfl) (pe_dget (hu_of hr) (pe_dget (hu_of hr) (pv 0) pe_str (fun _ _ => rfl)) (pv 1) (fun _ _ => rfl)))
      (pss_one (ps_ret (pe_ifExp (PW.pt (pw_and (pt_cmpR (eqDK (K := K) rfl hr.units) (pe_ix (ixL (K := K) rfl) (pv 3) pe_int (fun _ _ => rfl)) (pe_tupI (pa_cons pe_int (pa_cons pe_int pa_nil))) (nomark _)) (pw_and1 (pt_cmpR (eqDK (K := K) rfl hr.units) (pe_ix (ixL (K := K) rfl) (pv 3) pe_int (fun _ _ => rfl)) (pe_tupI (pa_cons pe_int (pa_cons pe_int pa_nil))) (nomark _))))) (pe_tupI (pa_cons pe_str (pa_cons pe_str (pa_cons (pv 1) pa_nil)))) pe_non))))), ?_⟩
    obtain ⟨gv, hd, _⟩ := hk.a
    refine ⟨_, rfl, a, t, rfl, ha, fun b hb => ⟨_, rfl, ?_⟩⟩
    by_cases ok : ShOk t
    case neg =>
      have e : b = false := by cases b with
        | false => rfl
        | true => exact absurd (hb.mp rfl) ok
      subst e
      refine iteT ?_
      exact ⟨_, rfl, rfl, fun z H2 s2 n2 h2 => w1 ok z H2 s2 (DtuAll.tup (.cons (.str _ _ (by decide +kernel)) (.cons (.str _ _ (by decide +kernel)) (.cons ((ha.same s2).dtu 1) .nil))) (SqT.of h2) (by show 3 ≤ 100000; decide))⟩
    have e : b = true := hb.mpr ok
    subst e
    refine iteF ?_
    obtain ⟨mv, sv, wv, h1, hm, ⟨sa, rfl, hs⟩, ⟨wa, rfl, hw⟩⟩ := hk.row x hx
    refine ⟨_, rfl, Bd.a, _, rfl, .inl ⟨_, kN "rows", .inl hd, rfl, rfl⟩, _, rfl, Bd.r, _, rfl, dget_n (.inl hk.r) hx, ?_⟩
    refine ⟨_, rfl, Bd.c x, _, 3, _, rfl, rfl, SqL.of h1, at3, rfl, fun t1 H1 s1 n1 g1 => ?_⟩
    refine ⟨dq (S.st x).s, .tuple [.int 0, .int 1], (hs.same s1).dp, .tup (SqT.of g1) (.cons (.int _) (.cons (.int _) .nil)), rfl, rfl, _, rfl, ?_⟩
    rw [show PyData.eqv (dq (S.st x).s) (.tuple [.int 0, .int 1]) = decide ((S.st x).s = 0) from eqv_pair.trans is_zero]
    by_cases c1 : (S.st x).s = 0
    case neg =>
      rw [decide_eq_false c1]
      exact w3 ok (fun z => c1 z.1) H1 s1
    rw [decide_eq_true c1]
    refine ⟨_, rfl, Bd.c x, _, 4, _, rfl, rfl, SqL.of (s1 _ _ h1), at4, rfl, fun t2 H2 s2 n2 g2 => ?_⟩
    refine ⟨dq (S.st x).w, .tuple [.int 0, .int 1], ((hw.same s1).same s2).dp, .tup (SqT.of g2) (.cons (.int _) (.cons (.int _) .nil)), rfl, rfl, _, rfl, ?_⟩
    rw [show PyData.eqv (dq (S.st x).w) (.tuple [.int 0, .int 1]) = decide ((S.st x).w = 0) from eqv_pair.trans is_zero]
    by_cases c2 : (S.st x).w = 0
    case neg =>
      rw [decide_eq_false c2]
      exact w3 ok (fun z => c2 z.2) H2 (s1.trans s2)
    rw [decide_eq_true c2]
    exact ⟨_, rfl, rfl, fun z H3 s3 n3 h3 => w2 ok ⟨c1, c2⟩ z H3 (s1.trans (s2.trans s3)) (DtuAll.tup (.cons (.str _ _ (by decide +kernel)) (.cons (.str _ _ (by decide +kernel)) (.cons (.str _ _ lx) .nil))) (SqT.of h3) (by show 3 ≤ 100000; decide))⟩

end
end KR
namespace KR
open PySem PySem.Spec PyProof.Rows L2
section
variable {P : Program} {w : World} {K : PySem.W.Frag} {mg : Str → Option Value} {base : Heap}
def sp_knf (K : PySem.W.Frag) : Sp := fun vs H Q _ => ∃ (B : LKA) (nms : List Str) (S : KS) (l : Addr) (xs : List Str), vs = [.ref B.a, .ref l] ∧ LKAt K H B nms S ∧ SqL K H l (xs.map V.str) ∧ (∀ x ∈ xs, PyData.canLay0 (.str x) = true) ∧
  (∀ i x, xs[i]? = some x → x ∉ nms → (∀ y ∈ xs.take i, y ∈ nms) → RefAt K H Q "kettle" (.str x)) ∧ ((∀ x ∈ xs, x ∈ nms) → Q .non H)
theorem ok_l_name_fault (T : All K mg) : FnOk P w K mg base CX0 1 T.f_l_name_fault T.fd_l_name_fault ["_law_state", "_law_names_here"] (sp_knf K) := by
  refine T.d_l_name_fault.fn.ok sc_l_name_fault (fun vs H Q E h => ?_) (fun cdv A outer s H vs Q E hr h => ?_)
  · obtain ⟨B, nms, S, l, xs, rfl, _⟩ := h
    rfl
  · obtain ⟨Bd, nms, S, l, xs, rfl, hk, hl, lay, w1, w2⟩ := h
    refine ⟨_, (pss_cons (ps_for PassesOwn.never rfl (pi_listK (K := K) rfl (pv 1)) (pg_name (i := 2) sc_l_name_fault.nd rfl (by first | exact Or.inl rfl | exact Or.inr rfl)) (pss_one (ps_if (pt_cmp (pc_dnotin (hu_of hr) (pv 2) (pe_dget (hu_of hr) (pv 0) pe_str (fun _ _ => rfl))) (by with_unfolding_all rfl)) (pss_one (ps_ret (pe_tupI (pa_cons pe_str (pa_cons pe_str (pa_cons (pv 2) pa_nil)))))) pss_nil)))
      (pss_one (ps_ret pe_non))), ?_⟩
    obtain ⟨gv, ha, _⟩ := hk.a
    refine ⟨_, rfl, l, rfl, ⟨_, hl⟩, ?_⟩
    refine for_list (K := K) (a := l) (xs := xs.map V.str) (fun i σ H' => ∃ (x2 : Option V), σ = [some (.ref Bd.a), some (.ref l), x2] ∧ H' = H ∧ ∀ y ∈ xs.take i, y ∈ nms) ⟨none, rfl, rfl, fun y hy => absurd hy (by simp)⟩ (fun i σ H' _ ⟨_, _, e, _⟩ => by rw [e]; exact hl) ?_ ?_
    · rintro i v σ H' hi ⟨x2, rfl, e, hy⟩
      subst e
      obtain ⟨x, hx, rfl⟩ : ∃ x, xs[i]? = some x ∧ v = V.str x := by
        rw [List.getElem?_map] at hi
        cases e : xs[i]? with
        | none => rw [e] at hi; cases hi
        | some k => rw [e] at hi; exact ⟨k, rfl, (Option.some.inj hi).symm⟩
      refine ⟨_, rfl, _, rfl, Bd.a, _, rfl, .inl ⟨_, kN "rows", .inl ha, rfl, rfl⟩, ?_⟩
      by_cases c : x ∈ nms
      · refine ⟨Bd.r, some _, rfl, dget_n (.inl hk.r) c, _, rfl, iteF ?_⟩
        exact ⟨_, rfl, rfl, fun y h => by
          rw [take_one hx, List.mem_append, List.mem_singleton] at h
          exact h.elim (hy y) fun e => by rw [e]; exact c⟩
      · refine ⟨Bd.r, none, rfl, dget_n0 (.inl hk.r) c, _, rfl, iteT ?_⟩
        refine ⟨_, rfl, rfl, fun a H2 s2 n2 h2 => w1 i x hx c hy a H2 s2 ?_⟩
        exact DtuAll.tup (.cons (.str _ _ (by decide +kernel)) (.cons (.str _ _ (by decide +kernel)) (.cons (.str _ _ (lay x (List.mem_of_getElem? hx))) .nil))) (SqT.of h2) (by show 3 ≤ 100000; decide)
    · rintro σ H' ⟨x2, rfl, e, hy⟩
      subst e
      rw [List.length_map, List.take_length] at hy
      exact w2 hy

end
end KR
namespace KR
open PySem PySem.Spec PyProof.Rows L2
section
variable {P : Program} {w : World} {K : PySem.W.Frag} {mg : Str → Option Value} {base : Heap}
def sp_kladled (K : PySem.W.Frag) : Sp := fun vs H Q _ => ∃ (B : LKA) (nms : List Str) (S : KS) (j : Nat) (d : Addr) (x y : Str) (t : Rat), vs = [.ref B.a, .ref d] ∧ LKAt K H B nms S ∧ KInv nms j S ∧ j ≤ 400 ∧ KDAt K H d (.ladle x y t) ∧ SAny t ∧ PyData.canLay0 (.str x) = true ∧ PyData.canLay0 (.str y) = true ∧
  ∀ v H', LKAt K H' B nms (kstep nms (.ladle x y t) S).1 → Dtu K H' 8 v (kstep nms (.ladle x y t) S).2 → Off K (B.R nms) H H' → Q v H'
theorem ok_l_ladled (T : All K mg) : FnOk P w K mg base CX0 5 T.f_l_ladled T.fd_l_ladled ["_law_state", "_law_deed_here"] (sp_kladled K) := by
  refine T.d_l_ladled.fn.ok sc_l_ladled (fun vs H Q E h => ?_) (fun cdv A outer s H vs Q E hr h => ?_)
  · obtain ⟨B, nms, S, j, d, x, y, t, rfl, _⟩ := h
    rfl
  · obtain ⟨Bd, nms, S, j, d, x, y, t, rfl, hk, inv, j9, hd, st, lx, ly, q⟩ := h
    refine ⟨_, (pss_cons (ps_asg (pv 1) (pg_tupK (K := K) rfl rfl (pgs_cons (pg_name (i := 2) sc_l_ladled.nd rfl (by first | exact Or.inl rfl | exact Or.inr rfl)) (pgs_cons (pg_name (i := 3) sc_l_ladled.nd rfl (by first | exact Or.inl rfl | exact Or.inr rfl)) (pgs_cons (pg_name (i := 4) sc_l_ladled.nd rfl (by first | exact Or.inl rfl | exact Or.inr rfl)) (pgs_cons (pg_name (i := 5) sc_l_ladled.nd rfl (by first | exact Or.inl rfl | exact Or.inr rfl)) pgs_nil))))))
      (pss_cons (ps_J (ps_set (i := 6) sc_l_ladled.nd rfl (by first | exact Or.inl rfl | exact Or.inr rfl) (pe_call (ok_l_name_fault T) (hr.mono (by decide)) (by rfl) T.d_l_name_fault.mg T.d_l_name_fault.fn.kp T.d_l_name_fault.b .nil pass0 (pa_cons (pv 0) (pa_cons (pe_lstI (pa_cons (pv 3) (pa_cons (pv 4) pa_nil))) pa_nil)))))
      (pss_cons (ps_J (ps_if (PW.pt (pw_and (pt_cmpR op_isN (pv 6) pe_non (nomark _)) (pw_and1 (pt_cmpR op_eq (pv 3) (pv 4) (nomark _))))) (pss_one (ps_set (i := 6) sc_l_ladled.nd rfl (by first | exact Or.inl rfl | exact Or.inr rfl) (pe_tupI (pa_cons pe_str (pa_cons pe_str (pa_cons (pv 3) pa_nil)))))) pss_nil))
      (pss_cons (ps_J (ps_set (i := 6) sc_l_ladled.nd rfl (by first | exact Or.inl rfl | exact Or.inr rfl) (pe_ifExp (pt_cmpR op_isN (pv 6) pe_non (nomark _)) (pe_call (ok_l_dip_fault T) (hr.mono (by decide)) (by rfl) T.d_l_dip_fault.mg T.d_l_dip_fault.fn.kp T.d_l_dip_fault.b .nil pass0 (pa_cons (pv 0) (pa_cons (pv 3) (pa_cons (pv 5) pa_nil)))) (pv 6))))
      (pss_cons (ps_if (pt_cmpR op_notN (pv 6) pe_non (nomark _)) (pss_one (ps_ret (pv 6))) pss_nil)
      (pss_cons (ps_if (pt_not (pt_val (pe_call (ok_l_fits T) (hr.mono (by decide)) (by rfl) T.d_l_fits.mg T.d_l_fits.fn.kp T.d_l_fits.b .nil pass0 (pa_cons (pe_dget (hu_of hr) (pe_dget (hu_of hr) (pv 0) pe_str (fun _ _ => rfl)) (pv 4) (fun _ _ => rfl)) (pa_cons (pe_call (ok_l_part T) (hr.mono (by decide)) (by rfl) T.d_l_part.mg T.d_l_part.fn.kp T.d_l_part.b .nil pass0 (pa_cons (pe_dget (hu_of hr) (pe_dget (hu_of hr) (pv 0) pe_str (fun _ _ => rfl)) (pv 3) (fun _ _ => rfl)) (pa_cons (pv 5) pa_nil))) pa_nil))))) (pss_one (ps_ret (pe_tupI (pa_cons pe_str (pa_cons pe_str (pa_cons (pv 4) pa_nil)))))) pss_nil)
      (pss_cons (ps_set (i := 7) sc_l_ladled.nd rfl (by first | exact Or.inl rfl | exact Or.inr rfl) (pe_call (ok_l_out T) hr (by rfl) T.d_l_out.mg T.d_l_out.fn.kp T.d_l_out.b .nil pass0 (pa_cons (pe_dget (hu_of hr) (pe_dget (hu_of hr) (pv 0) pe_str (fun _ _ => rfl)) (pv 3) (fun _ _ => rfl)) (pa_cons (pv 5) pa_nil))))
      (pss_cons (ps_expr (pe_call (ok_l_in T) (hr.mono (by decide)) (by rfl) T.d_l_in.mg T.d_l_in.fn.kp T.d_l_in.b .nil pass0 (pa_cons (pe_dget (hu_of hr) (pe_dget (hu_of hr) (pv 0) pe_str (fun _ _ => rfl)) (pv 4) (fun _ _ => rfl)) (pa_cons (pv 7) pa_nil))))
      (pss_one (ps_ret (pe_tupI (pa_cons pe_str (pa_cons (pv 7) pa_nil))))))))))))), ?_⟩
    obtain ⟨sa, ht, ha⟩ := hd
    obtain ⟨M, L, N, n, md, okk, _⟩ := inv.get j9
    have dg : ∀ {H' : Hp}, LKAt K H' Bd nms S → ∀ {z : Str}, z ∈ nms → ∃ gv, DGet H' Bd.a (.str "rows") (some (.ref Bd.r)) ∧ DGet H' Bd.r (.str z) (some (.ref (Bd.c z))) ∧ H' Bd.a = some (.dK (skv S.hour gv Bd.r)) := fun hk z hz => by
      obtain ⟨gv, e, _⟩ := hk.a
      exact ⟨gv, .inl ⟨_, kN "rows", .inl e, rfl, rfl⟩, dget_n (.inl hk.r) hz, e⟩
    refine ⟨_, rfl, d, _, rfl, ht, rfl, _, _, rfl, _, _, rfl, _, _, rfl, _, _, rfl, rfl, ?_⟩
    refine ⟨fun σ' H' => ∃ fv, σ' = [some (.ref Bd.a), some (.ref d), some (.str "ladle"), some (.str x), some (.str y), some (.ref sa), some fv, none] ∧ Same H H' ∧ (Flt K H' nms (.ladle x y t) S fv ∨ (fv = .non ∧ x ∈ nms ∧ y ∈ nms)), ?_, ?_⟩
    case' refine_2 =>
      refine ⟨_, rfl, _, rfl, _, rfl, rfl, fun l H1 s1 n1 h1 => ?_⟩
      have h1' : H1 l = some (.lst ([x, y].map V.str)) := h1
      refine ⟨Bd, nms, S, l, [x, y], rfl, hk.same s1, SqL.of h1', fun z hz => ?_, fun i z hi nz pre a H2 s2 hd => ?_, fun all => ?_⟩
      · simp only [List.mem_cons, List.not_mem_nil, or_false] at hz
        rcases hz with e | e
        · rw [e]; exact lx
        · rw [e]; exact ly
      · refine ⟨.ref a, rfl, s1.trans s2, .inl ?_⟩
        match i, hi, pre with
        | 0, hi, _ =>
          cases hi
          exact .of (by unfold kstep; dsimp only; rw [if_pos nz]) hd
        | 1, hi, pre =>
          cases hi
          have hx : x ∈ nms := pre x (by simp)
          exact .of (by unfold kstep; dsimp only; rw [if_neg (fun z => z hx), if_pos nz]) hd
        | i + 2, hi, _ => simp at hi
      · exact ⟨.non, rfl, s1, .inr ⟨rfl, all x (by simp), all y (by simp)⟩⟩
    rintro σ' H1 ⟨fv, rfl, s1, fl⟩
    refine ⟨fun σ' H' => ∃ fv, σ' = [some (.ref Bd.a), some (.ref d), some (.str "ladle"), some (.str x), some (.str y), some (.ref sa), some fv, none] ∧ Same H H' ∧ (Flt K H' nms (.ladle x y t) S fv ∨ (fv = .non ∧ x ∈ nms ∧ y ∈ nms ∧ x ≠ y)), ?_, ?_⟩
    case' refine_2 =>
      rcases fl with fl | ⟨rfl, hx, hy⟩
      · obtain ⟨z, rfl, z1, z2⟩ := id fl
        exact ⟨_, rfl, rfl, _, rfl, (show _ from ⟨_, rfl, s1, .inl fl⟩)⟩
      · refine ⟨_, rfl, rfl, _, rfl, ?_⟩
        refine ⟨_, rfl, _, rfl, rfl, _, rfl, ?_⟩
        by_cases c : V.str x = V.str y
        · rw [decide_eq_true c]
          have e : x = y := V.str.inj c
          refine ⟨_, rfl, rfl, fun a H2 s2 n2 h2 => ⟨_, rfl, s1.trans s2, .inl (.of (d := refu "same" (.str x)) ?_ (refu_dtu (SqT.of h2) (by decide +kernel) (.str _ _ lx)))⟩⟩
          unfold kstep; dsimp only; rw [if_neg (fun z => z hx), if_neg (fun z => z hy), if_pos e]
        · rw [decide_eq_false c]
          exact ⟨_, rfl, s1, .inr ⟨rfl, hx, hy, fun e => c (by rw [e])⟩⟩
    clear fl s1
    rintro σ' H2 ⟨fv, rfl, s2, fl⟩
    refine ⟨fun σ' H' => ∃ fv, σ' = [some (.ref Bd.a), some (.ref d), some (.str "ladle"), some (.str x), some (.str y), some (.ref sa), some fv, none] ∧ Same H H' ∧ (Flt K H' nms (.ladle x y t) S fv ∨ (fv = .non ∧ x ∈ nms ∧ y ∈ nms ∧ x ≠ y ∧ ShOk t ∧ ¬ (S.st x).nil)), ?_, ?_⟩
    case' refine_2 =>
      rcases fl with fl | ⟨rfl, hx, hy, ne⟩
      · obtain ⟨z, rfl, z1, z2⟩ := id fl
        exact ⟨_, rfl, rfl, _, rfl, ⟨_, rfl, _, rfl, s2, .inl fl⟩⟩
      · refine ⟨_, rfl, rfl, _, rfl, ?_⟩
        refine ⟨_, rfl, _, rfl, _, rfl, Bd, nms, S, x, sa, t, rfl, hk.same s2, hx, lx, ha.same s2, fun no a H3 s3 hd => ?_, fun ok ni a H3 s3 hd => ?_, fun ok nn H3 s3 => ?_⟩
        · refine ⟨_, rfl, s2.trans s3, .inl (.of ?_ hd)⟩
          unfold kstep; dsimp only; rw [if_neg (fun z => z hx), if_neg (fun z => z hy), if_neg ne, if_pos no]
        · refine ⟨_, rfl, s2.trans s3, .inl (.of ?_ hd)⟩
          unfold kstep; dsimp only; rw [if_neg (fun z => z hx), if_neg (fun z => z hy), if_neg ne, if_neg (fun z => z ok), if_pos ni]
        · exact ⟨_, rfl, s2.trans s3, .inr ⟨rfl, hx, hy, ne, ok, nn⟩⟩
    clear fl s2
    rintro σ' H3 ⟨fv, rfl, s3, fl⟩
    rcases fl with fl | ⟨rfl, hx, hy, ne, ok, nn⟩
    · obtain ⟨z, rfl, z1, z2⟩ := id fl
      refine ⟨_, rfl, rfl, _, rfl, ?_⟩
      exact ⟨_, rfl, q _ H3 (by rw [z2]; exact hk.same s3) (z1.up (by decide)) (.same s3)⟩
    refine ⟨_, rfl, rfl, _, rfl, ?_⟩
    have hk3 := hk.same s3
    have ha3 := ha.same s3
    obtain ⟨gv, dr, dy, ea⟩ := dg hk3 hy
    obtain ⟨_, _, dxx, _⟩ := dg hk3 hx
    have kx := okk x hx
    have ky := okk y hy
    obtain ⟨p1, p2⟩ := kx.part_in n st
    obtain ⟨vb, v1, v2⟩ := vbig2 n ((ky.inS n).mono (by decide +kernel)) ((ky.inW n).mono (by decide +kernel)) (p1.mono (by decide +kernel)) (p2.mono (by decide +kernel))
    have bs := (kx.inS n).big n (by decide +kernel)
    have bw := (kx.inW n).big n (by decide +kernel)
    refine ⟨_, rfl, Bd.a, _, rfl, dr, _, rfl, Bd.r, _, rfl, dy, ?_⟩
    refine ⟨_, rfl, Bd.a, _, rfl, dr, _, rfl, Bd.r, _, rfl, dxx, _, rfl, Bd.c x, sa, S.st x, t, rfl, hk3.row x hx, ha3, bs, bw, st.sz.1, fun g H4 s4 hg => ?_⟩
    refine ⟨Bd.c y, g, S.st y, _, _, rfl, (hk3.same s4).row y hy, hg, vb, v1, v2, ky.room_sz, fun H5 s5 => ⟨_, rfl, ?_⟩⟩
    have s35 := s4.trans s5
    by_cases fu : (S.st y).full ((S.st x).s * t) ((S.st x).w * t)
    · rw [decide_eq_true fu]
      have es : kstep nms (.ladle x y t) S = (S, refu "room" (.str y)) := by
        unfold kstep; dsimp only; rw [if_neg (fun z => z hx), if_neg (fun z => z hy), if_neg ne, if_neg (fun z => z ok), if_neg nn, if_pos fu]
      refine ⟨_, rfl, rfl, fun a H6 s6 n6 h6 => ?_⟩
      refine q _ H6 (by rw [es]; exact (hk3.same s35).same s6) ?_ (.same (s3.trans (s35.trans s6)))
      rw [es]
      exact (refu_dtu (SqT.of h6) (by decide +kernel) (.str _ _ ly)).up (by decide)
    rw [decide_eq_false fu]
    have es : kstep nms (.ladle x y t) S = ((S.put y ((S.st y).inn ((S.st x).s * t) ((S.st x).w * t))).put x ((S.st x).out t), toldD (dj ((S.st x).s * t) ((S.st x).w * t))) := by
      unfold kstep; dsimp only; rw [if_neg (fun z => z hx), if_neg (fun z => z hy), if_neg ne, if_neg (fun z => z ok), if_neg nn, if_neg fu]
    have hk5 := hk3.same s35
    obtain ⟨gv5, dr5, dx5, ea5⟩ := dg hk5 hx
    refine ⟨_, rfl, Bd.a, _, rfl, dr5, _, rfl, Bd.r, _, rfl, dx5, _, rfl, Bd.c x, sa, S.st x, t, rfl, hk5.row x hx, ha3.same s35, bs, bw, st.sz.1, p1.big n (by decide +kernel), p2.big n (by decide +kernel), fun g2 H6 r6 hg2 o6 => ?_⟩
    have hk6 := hk5.set hx o6 r6
    have ey : (S.put x ((S.st x).out t)).st y = S.st y := set1_ne (fun e => ne e.symm)
    obtain ⟨gv6, ea6, _⟩ := hk6.a
    have row6 := hk6.row y hy
    rw [ey] at row6
    refine ⟨_, rfl, Bd.a, _, rfl, .inl ⟨_, kN "rows", .inl ea6, rfl, rfl⟩, _, rfl, Bd.r, _, rfl, dget_n (.inl hk6.r) hy, _, rfl, Bd.c y, g2, S.st y, _, _, rfl, row6, hg2, vb.a, vb.b, vb.c, vb.d, fun H7 r7 o7 => ?_⟩
    have hk7 := hk6.set hy o7 r7
    rw [put_comm ne] at hk7
    refine ⟨_, rfl, rfl, fun tt H8 s8 n8 h8 => ?_⟩
    refine q _ H8 (by rw [es]; exact hk7.same s8) ?_ ((((Off.same (s3.trans s35)).seq (o6.mono fun a e => .inr ⟨x, hx, e⟩)).seq (o7.mono fun a e => .inr ⟨y, hy, e⟩)).seq (.same s8))
    rw [es]
    exact (told_dtu (n := 2) (SqT.of h8) (((hg2.tk o7.tk).same s8).dtu)).up (by decide)

end
end KR
namespace KR
open PySem PySem.Spec PyProof.Rows L2
section
variable {P : Program} {w : World} {K : PySem.W.Frag} {mg : Str → Option Value} {base : Heap}
def sp_kskimmed (K : PySem.W.Frag) : Sp := fun vs H Q _ => ∃ (B : LKA) (nms : List Str) (S : KS) (j : Nat) (d : Addr) (x y : Str) (t g : Rat), vs = [.ref B.a, .ref d] ∧ LKAt K H B nms S ∧ KInv nms j S ∧ j ≤ 400 ∧ KDAt K H d (.skim x t g y) ∧ SAny t ∧ SAny g ∧ PyData.canLay0 (.str x) = true ∧ PyData.canLay0 (.str y) = true ∧
  ∀ v H', LKAt K H' B nms (kstep nms (.skim x t g y) S).1 → Dtu K H' 8 v (kstep nms (.skim x t g y) S).2 → Off K (B.R nms) H H' → Q v H'
theorem ok_l_skimmed (T : All K mg) : FnOk P w K mg base CX0 5 T.f_l_skimmed T.fd_l_skimmed ["_law_state", "_law_deed_here"] (sp_kskimmed K) := by
  refine T.d_l_skimmed.fn.ok sc_l_skimmed (fun vs H Q E h => ?_) (fun cdv A outer s H vs Q E hr h => ?_)
  · obtain ⟨B, nms, S, j, d, x, y, t, g, rfl, _⟩ := h
    rfl
  · obtain ⟨Bd, nms, S, j, d, x, y, t, g, rfl, hk, inv, j9, hd, st, sg, lx, ly, q⟩ := h
    refine ⟨_, (pss_cons (ps_asg (pv 1) (pg_tupK (K := K) rfl rfl (pgs_cons (pg_name (i := 2) sc_l_skimmed.nd rfl (by first | exact Or.inl rfl | exact Or.inr rfl)) (pgs_cons (pg_name (i := 3) sc_l_skimmed.nd rfl (by first | exact Or.inl rfl | exact Or.inr rfl)) (pgs_cons (pg_name (i := 4) sc_l_skimmed.nd rfl (by first | exact Or.inl rfl | exact Or.inr rfl)) (pgs_cons (pg_name (i := 5) sc_l_skimmed.nd rfl (by first | exact Or.inl rfl | exact Or.inr rfl)) (pgs_cons (pg_name (i := 6) sc_l_skimmed.nd rfl (by first | exact Or.inl rfl | exact Or.inr rfl)) pgs_nil)))))))
      (pss_cons (ps_J (ps_set (i := 7) sc_l_skimmed.nd rfl (by first | exact Or.inl rfl | exact Or.inr rfl) (pe_call (ok_l_name_fault T) (hr.mono (by decide)) (by rfl) T.d_l_name_fault.mg T.d_l_name_fault.fn.kp T.d_l_name_fault.b .nil pass0 (pa_cons (pv 0) (pa_cons (pe_lstI (pa_cons (pv 3) (pa_cons (pv 6) pa_nil))) pa_nil)))))
      (pss_cons (ps_J (ps_if (PW.pt (pw_and (pt_cmpR op_isN (pv 7) pe_non (nomark _)) (pw_and (pt_val (pe_call (ok_l_is_share T) (hr.mono (by decide)) (by rfl) T.d_l_is_share.mg T.d_l_is_share.fn.kp T.d_l_is_share.b .nil pass0 (pa_cons (pv 4) pa_nil))) (pw_and (pt_cmpR (neDK (K := K) rfl hr.units) (pv 5) (pe_tupI (pa_cons pe_int (pa_cons pe_int pa_nil))) (nomark _)) (pw_and1 (pt_not (pt_val (pe_call (ok_l_is_share T) (hr.mono (by decide)) (by rfl) T.d_l_is_share.mg T.d_l_is_share.fn.kp T.d_l_is_share.b .nil pass0 (pa_cons (pv 5) pa_nil))))))))) (pss_one (ps_set (i := 7) sc_l_skimmed.nd rfl (by first | exact Or.inl rfl | exact Or.inr rfl) (pe_tupI (pa_cons pe_str (pa_cons pe_str (pa_cons (pv 5) pa_nil)))))) pss_nil))
      (pss_cons (ps_J (ps_set (i := 7) sc_l_skimmed.nd rfl (by first | exact Or.inl rfl | exact Or.inr rfl) (pe_ifExp (pt_cmpR op_isN (pv 7) pe_non (nomark _)) (pe_call (ok_l_dip_fault T) (hr.mono (by decide)) (by rfl) T.d_l_dip_fault.mg T.d_l_dip_fault.fn.kp T.d_l_dip_fault.b .nil pass0 (pa_cons (pv 0) (pa_cons (pv 3) (pa_cons (pv 4) pa_nil)))) (pv 7))))
      (pss_cons (ps_if (pt_cmpR op_notN (pv 7) pe_non (nomark _)) (pss_one (ps_ret (pv 7))) pss_nil)
      (pss_cons (ps_set (i := 8) sc_l_skimmed.nd rfl (by first | exact Or.inl rfl | exact Or.inr rfl) (pe_call (ok_l_part T) (hr.mono (by decide)) (by rfl) T.d_l_part.mg T.d_l_part.fn.kp T.d_l_part.b .nil pass0 (pa_cons (pe_dget (hu_of hr) (pe_dget (hu_of hr) (pv 0) pe_str (fun _ _ => rfl)) (pv 3) (fun _ _ => rfl)) (pa_cons (pv 4) pa_nil))))
      (pss_cons (ps_set (i := 9) sc_l_skimmed.nd rfl (by first | exact Or.inl rfl | exact Or.inr rfl) (pe_tupI (pa_cons (pe_call (ok_l_by T) (hr.mono (by decide)) (by rfl) T.d_l_by.mg T.d_l_by.fn.kp T.d_l_by.b .nil pass0 (pa_cons (pe_ix (ixT (K := K) rfl) (pv 8) pe_int (fun _ _ => rfl)) (pa_cons (pv 5) pa_nil))) (pa_cons (pe_call (ok_l_by T) (hr.mono (by decide)) (by rfl) T.d_l_by.mg T.d_l_by.fn.kp T.d_l_by.b .nil pass0 (pa_cons (pe_ix (ixT (K := K) rfl) (pv 8) pe_int (fun _ _ => rfl)) (pa_cons (pv 5) pa_nil))) pa_nil))))
      (pss_cons (ps_J (ps_if (PW.pt (pw_and (pt_cmpR op_ne (pv 3) (pv 6) (nomark _)) (pw_and1 (pt_not (pt_val (pe_call (ok_l_fits T) (hr.mono (by decide)) (by rfl) T.d_l_fits.mg T.d_l_fits.fn.kp T.d_l_fits.b .nil pass0 (pa_cons (pe_dget (hu_of hr) (pe_dget (hu_of hr) (pv 0) pe_str (fun _ _ => rfl)) (pv 6) (fun _ _ => rfl)) (pa_cons (pv 9) pa_nil)))))))) (pss_one (ps_ret (pe_tupI (pa_cons pe_str (pa_cons pe_str (pa_cons (pv 6) pa_nil)))))) pss_nil))
      (pss_cons (ps_expr (pe_call (ok_l_out T) hr (by rfl) T.d_l_out.mg T.d_l_out.fn.kp T.d_l_out.b .nil pass0 (pa_cons (pe_dget (hu_of hr) (pe_dget (hu_of hr) (pv 0) pe_str (fun _ _ => rfl)) (pv 3) (fun _ _ => rfl)) (pa_cons (pv 4) pa_nil))))
      (pss_cons (ps_expr (pe_call (ok_l_in T) (hr.mono (by decide)) (by rfl) T.d_l_in.mg T.d_l_in.fn.kp T.d_l_in.b .nil pass0 (pa_cons (pe_dget (hu_of hr) (pe_dget (hu_of hr) (pv 0) pe_str (fun _ _ => rfl)) (pv 6) (fun _ _ => rfl)) (pa_cons (pv 9) pa_nil))))
      (pss_one (ps_ret (pe_tupI (pa_cons pe_str (pa_cons (pe_tupI (pa_cons (pv 9) (pa_cons (pe_tupI (pa_cons (pe_call (ok_l_minus T) (hr.mono (by decide)) (by rfl) T.d_l_minus.mg T.d_l_minus.fn.kp T.d_l_minus.b .nil pass0 (pa_cons (pe_ix (ixT (K := K) rfl) (pv 8) pe_int (fun _ _ => rfl)) (pa_cons (pe_ix (ixT (K := K) rfl) (pv 9) pe_int (fun _ _ => rfl)) pa_nil))) (pa_cons (pe_call (ok_l_minus T) (hr.mono (by decide)) (by rfl) T.d_l_minus.mg T.d_l_minus.fn.kp T.d_l_minus.b .nil pass0 (pa_cons (pe_ix (ixT (K := K) rfl) (pv 8) pe_int (fun _ _ => rfl)) (pa_cons (pe_ix (ixT (K := K) rfl) (pv 9) pe_int (fun _ _ => rfl)) pa_nil))) pa_nil))) pa_nil))) pa_nil))))))))))))))), ?_⟩
    obtain ⟨sa, ga, ht, ha, hg⟩ := hd
    obtain ⟨M, L, N, n, md, okk, _⟩ := inv.get j9
    have dg : ∀ {H' : Hp}, LKAt K H' Bd nms S → ∀ {z : Str}, z ∈ nms → ∃ gv, DGet H' Bd.a (.str "rows") (some (.ref Bd.r)) ∧ DGet H' Bd.r (.str z) (some (.ref (Bd.c z))) ∧ H' Bd.a = some (.dK (skv S.hour gv Bd.r)) := fun hk z hz => by
      obtain ⟨gv, e, _⟩ := hk.a
      exact ⟨gv, .inl ⟨_, kN "rows", .inl e, rfl, rfl⟩, dget_n (.inl hk.r) hz, e⟩
    refine ⟨_, rfl, d, _, rfl, ht, rfl, _, _, rfl, _, _, rfl, _, _, rfl, _, _, rfl, _, _, rfl, rfl, ?_⟩
    refine ⟨fun σ' H' => ∃ fv, σ' = [some (.ref Bd.a), some (.ref d), some (.str "skim"), some (.str x), some (.ref sa), some (.ref ga), some (.str y), some fv, none, none] ∧ Same H H' ∧ (Flt K H' nms (.skim x t g y) S fv ∨ (fv = .non ∧ x ∈ nms ∧ y ∈ nms)), ?_, ?_⟩
    case' refine_2 =>
      refine ⟨_, rfl, _, rfl, _, rfl, rfl, fun l H1 s1 n1 h1 => ?_⟩
      have h1' : H1 l = some (.lst ([x, y].map V.str)) := h1
      refine ⟨Bd, nms, S, l, [x, y], rfl, hk.same s1, SqL.of h1', fun z hz => ?_, fun i z hi nz pre a H2 s2 hd => ?_, fun all => ?_⟩
      · simp only [List.mem_cons, List.not_mem_nil, or_false] at hz
        rcases hz with e | e
        · rw [e]; exact lx
        · rw [e]; exact ly
      · refine ⟨.ref a, rfl, s1.trans s2, .inl ?_⟩
        match i, hi, pre with
        | 0, hi, _ =>
          cases hi
          exact .of (by unfold kstep; dsimp only; rw [if_pos nz]) hd
        | 1, hi, pre =>
          cases hi
          have hx : x ∈ nms := pre x (by simp)
          exact .of (by unfold kstep; dsimp only; rw [if_neg (fun z => z hx), if_pos nz]) hd
        | i + 2, hi, _ => simp at hi
      · exact ⟨.non, rfl, s1, .inr ⟨rfl, all x (by simp), all y (by simp)⟩⟩
    rintro σ' H1 ⟨fv, rfl, s1, fl⟩
    refine ⟨fun σ' H' => ∃ fv, σ' = [some (.ref Bd.a), some (.ref d), some (.str "skim"), some (.str x), some (.ref sa), some (.ref ga), some (.str y), some fv, none, none] ∧ Same H H' ∧ (Flt K H' nms (.skim x t g y) S fv ∨ (fv = .non ∧ x ∈ nms ∧ y ∈ nms ∧ (ShOk t → ¬ (g ≠ 0 ∧ ¬ ShOk g)))), ?_, ?_⟩
    case' refine_2 =>
      rcases fl with fl | ⟨rfl, hx, hy⟩
      · obtain ⟨z, rfl, z1, z2⟩ := id fl
        exact ⟨_, rfl, rfl, _, rfl, (show _ from ⟨_, rfl, s1, .inl fl⟩)⟩
      · refine ⟨_, rfl, rfl, _, rfl, ?_⟩
        refine ⟨_, rfl, sa, t, rfl, ha.same s1, fun b hb => ?_⟩
        refine ⟨b, rfl, ?_⟩
        cases b with
        | false => exact ⟨_, rfl, s1, .inr ⟨rfl, hx, hy, fun ok => absurd (hb.mpr ok) (by decide)⟩⟩
        | true =>
          have ok := hb.mp rfl
          refine ⟨_, rfl, rfl, fun t0 H2 s2 n2 h2 => ?_⟩
          refine ⟨dq g, .tuple [.int 0, .int 1], ((hg.same s1).same s2).dp, .tup (SqT.of h2) (.cons (.int _) (.cons (.int _) .nil)), rfl, rfl, _, rfl, ?_⟩
          rw [show PyData.eqv (dq g) (.tuple [.int 0, .int 1]) = decide (g = 0) from eqv_pair.trans is_zero]
          by_cases c : g = 0
          · rw [decide_eq_true c]
            exact ⟨_, rfl, s1.trans s2, .inr ⟨rfl, hx, hy, fun _ z => z.1 c⟩⟩
          rw [decide_eq_false c]
          refine ⟨_, rfl, ga, g, rfl, (hg.same s1).same s2, fun b2 hb2 => ⟨_, rfl, ?_⟩⟩
          cases b2 with
          | true => exact ⟨_, rfl, s1.trans s2, .inr ⟨rfl, hx, hy, fun _ z => z.2 (hb2.mp rfl)⟩⟩
          | false =>
            have ng : ¬ ShOk g := fun z => absurd (hb2.mpr z) (by decide)
            refine ⟨_, rfl, rfl, fun a H3 s3 n3 h3 => ⟨_, rfl, s1.trans (s2.trans s3), .inl (.of (d := refu "share" (dq g)) ?_ (refu_dtu (SqT.of h3) (by decide +kernel) (((hg.same s1).same (s2.trans s3)).dtu 1)))⟩⟩
            unfold kstep; dsimp only; rw [if_neg (fun z => z hx), if_neg (fun z => z hy), if_neg (fun z => z ok), if_pos ⟨c, ng⟩]
    clear fl s1
    rintro σ' H2 ⟨fv, rfl, s2, fl⟩
    refine ⟨fun σ' H' => ∃ fv, σ' = [some (.ref Bd.a), some (.ref d), some (.str "skim"), some (.str x), some (.ref sa), some (.ref ga), some (.str y), some fv, none, none] ∧ Same H H' ∧ (Flt K H' nms (.skim x t g y) S fv ∨ (fv = .non ∧ x ∈ nms ∧ y ∈ nms ∧ ShOk t ∧ ¬ (g ≠ 0 ∧ ¬ ShOk g) ∧ ¬ (S.st x).nil)), ?_, ?_⟩
    case' refine_2 =>
      rcases fl with fl | ⟨rfl, hx, hy, og⟩
      · obtain ⟨z, rfl, z1, z2⟩ := id fl
        exact ⟨_, rfl, rfl, _, rfl, ⟨_, rfl, _, rfl, s2, .inl fl⟩⟩
      · refine ⟨_, rfl, rfl, _, rfl, ?_⟩
        refine ⟨_, rfl, _, rfl, _, rfl, Bd, nms, S, x, sa, t, rfl, hk.same s2, hx, lx, ha.same s2, fun no a H3 s3 hd => ?_, fun ok ni a H3 s3 hd => ?_, fun ok nn H3 s3 => ?_⟩
        · refine ⟨_, rfl, s2.trans s3, .inl (.of ?_ hd)⟩
          unfold kstep; dsimp only; rw [if_neg (fun z => z hx), if_neg (fun z => z hy), if_pos no]
        · refine ⟨_, rfl, s2.trans s3, .inl (.of ?_ hd)⟩
          unfold kstep; dsimp only; rw [if_neg (fun z => z hx), if_neg (fun z => z hy), if_neg (fun z => z ok), if_neg (og ok), if_pos ni]
        · exact ⟨_, rfl, s2.trans s3, .inr ⟨rfl, hx, hy, ok, og ok, nn⟩⟩
    clear fl s2
    rintro σ' H3 ⟨fv, rfl, s3, fl⟩
    rcases fl with fl | ⟨rfl, hx, hy, ok, og, nn⟩
    · obtain ⟨z, rfl, z1, z2⟩ := id fl
      refine ⟨_, rfl, rfl, _, rfl, ?_⟩
      exact ⟨_, rfl, q _ H3 (by rw [z2]; exact hk.same s3) (z1.up (by decide)) (.same s3)⟩
    have og' : g = 0 ∨ ShOk g := Classical.byContradiction fun z => og ⟨fun e => z (.inl e), fun e => z (.inr e)⟩
    refine ⟨_, rfl, rfl, _, rfl, ?_⟩
    have hk3 := hk.same s3
    have ha3 := ha.same s3
    have hg3 := hg.same s3
    obtain ⟨gv, dr, dy, ea⟩ := dg hk3 hy
    obtain ⟨_, _, dxx, _⟩ := dg hk3 hx
    have kx := okk x hx
    have ky := okk y hy
    obtain ⟨p1, p2⟩ := kx.part_in n st
    obtain ⟨r1, r2⟩ := kx.part2_in n st sg
    obtain ⟨b1, b2, b3⟩ := bef_in kx ky n st
    obtain ⟨vb, v1, v2⟩ := vbig2 n (b1.mono (by decide +kernel)) (b2.mono (by decide +kernel)) (r1.mono (by decide +kernel)) (r2.mono (by decide +kernel))
    have bs := (kx.inS n).big n (by decide +kernel)
    have bw := (kx.inW n).big n (by decide +kernel)
    have q1 := p1.big n (by decide +kernel)
    have q2 := p2.big n (by decide +kernel)
    refine ⟨_, rfl, Bd.a, _, rfl, dr, _, rfl, Bd.r, _, rfl, dxx, _, rfl, Bd.c x, sa, S.st x, t, rfl, hk3.row x hx, ha3, bs, bw, st.sz.1, fun ju H4 s4 hj => ?_⟩
    obtain ⟨j1, j2, hjj, hj1, hj2⟩ := id hj
    refine ⟨_, rfl, ju, _, 0, _, rfl, rfl, hjj, at0, _, rfl, j1, ga, _, g, rfl, hj1, hg3.same s4, q1, sg.sz.1, trivial, fun o1 H5 s5 n5 h5 => ?_⟩
    refine ⟨_, rfl, ju, _, 1, _, rfl, rfl, Same.tup s5 hjj, at1, _, rfl, j2, ga, _, g, rfl, hj2.same s5, (hg3.same s4).same s5, q2, sg.sz.1, trivial, fun o2 H6 s6 n6 h6 => ⟨rfl, fun po H7 s7 n7 h7 => ?_⟩⟩
    have s47 := s4.trans (s5.trans (s6.trans s7))
    have hp : JuQ K H7 po ((S.st x).s * t * g) ((S.st x).w * t * g) := .new h7 ((show FrQ K H5 o1 ((S.st x).s * t * g) from h5).same (s6.trans s7)) ((show FrQ K H6 o2 ((S.st x).w * t * g) from h6).same s7)
    have hk7 := hk3.same s47
    have hj7 := hj.same (s5.trans (s6.trans s7))
    refine ⟨fun σ' H' => σ' = [some (.ref Bd.a), some (.ref d), some (.str "skim"), some (.str x), some (.ref sa), some (.ref ga), some (.str y), some (.non), some (.ref ju), some (.ref po)] ∧ Same H7 H' ∧ ¬ (Ke.bef S x y t).full ((S.st x).s * t * g) ((S.st x).w * t * g), ?_, ?_⟩
    case' refine_2 =>
      refine ⟨_, rfl, _, rfl, rfl, _, rfl, ?_⟩
      by_cases c : V.str x = V.str y
      · rw [decide_eq_true c]
        refine ⟨rfl, fun _ _ e => e, ?_⟩
        have e : x = y := V.str.inj c
        subst e
        exact self_fits kx ok og'
      rw [decide_eq_false c]
      have ne : x ≠ y := fun e => c (by rw [e])
      have eb : Ke.bef S x y t = S.st y := if_neg ne
      rw [eb] at vb v1
      obtain ⟨gv7, dr7, dy7, ea7⟩ := dg hk7 hy
      refine ⟨_, rfl, Bd.a, _, rfl, dr7, _, rfl, Bd.r, _, rfl, dy7, _, rfl, Bd.c y, po, S.st y, _, _, rfl, hk7.row y hy, hp, vb, v1, v2, ky.room_sz, fun H8 s8 => ⟨_, rfl, ?_⟩⟩
      by_cases fu : (S.st y).full ((S.st x).s * t * g) ((S.st x).w * t * g)
      · rw [decide_eq_true fu]
        have es : kstep nms (.skim x t g y) S = (S, refu "room" (.str y)) := by
          unfold kstep; dsimp only; rw [if_neg (fun z => z hx), if_neg (fun z => z hy), if_neg (fun z => z ok), if_neg og, if_neg nn, if_pos (by rw [eb]; exact fu)]
        refine ⟨_, rfl, rfl, fun a H9 s9 n9 h9 => ?_⟩
        refine q _ H9 (by rw [es]; exact (hk7.same s8).same s9) ?_ (.same (s3.trans (s47.trans (s8.trans s9))))
        rw [es]
        exact (refu_dtu (SqT.of h9) (by decide +kernel) (.str _ _ ly)).up (by decide)
      · rw [decide_eq_false fu]
        exact ⟨rfl, s8, by rw [eb]; exact fu⟩
    rintro σ' H8 ⟨rfl, s8, nf⟩
    have es : kstep nms (.skim x t g y) S = ((S.put x ((S.st x).out t)).put y ((Ke.bef S x y t).inn ((S.st x).s * t * g) ((S.st x).w * t * g)), toldD (.tuple [dj ((S.st x).s * t * g) ((S.st x).w * t * g), dj ((S.st x).s * t * (1 - g)) ((S.st x).w * t * (1 - g))])) := by
      unfold kstep; dsimp only; rw [if_neg (fun z => z hx), if_neg (fun z => z hy), if_neg (fun z => z ok), if_neg og, if_neg nn, if_neg nf]
    have hk8 := hk7.same s8
    have s38 := s47.trans s8
    obtain ⟨gv8, dr8, dx8, ea8⟩ := dg hk8 hx
    refine ⟨_, rfl, Bd.a, _, rfl, dr8, _, rfl, Bd.r, _, rfl, dx8, _, rfl, Bd.c x, sa, S.st x, t, rfl, hk8.row x hx, ha3.same s38, bs, bw, st.sz.1, q1, q2, fun g2 H9 r9 hg2 o9 => ?_⟩
    have hk9 := hk8.set hx o9 r9
    have ey : (S.put x ((S.st x).out t)).st y = Ke.bef S x y t := by
      unfold Ke.bef
      by_cases c : x = y
      · rw [if_pos c, ← c]
        exact set1_same
      · rw [if_neg c]
        exact set1_ne fun e => c e.symm
    obtain ⟨gv9, ea9, _⟩ := hk9.a
    have row9 := hk9.row y hy
    rw [ey] at row9
    have hp9 := (hp.same s8).tk o9.tk
    refine ⟨_, rfl, Bd.a, _, rfl, .inl ⟨_, kN "rows", .inl ea9, rfl, rfl⟩, _, rfl, Bd.r, _, rfl, dget_n (.inl hk9.r) hy, _, rfl, Bd.c y, po, Ke.bef S x y t, _, _, rfl, row9, hp9, vb.a, vb.b, vb.c, vb.d, fun HA rA oA => ?_⟩
    have hkA := hk9.set hy oA rA
    have hpA := hp9.tk oA.tk
    have hjA := ((hj7.same s8).tk o9.tk).tk oA.tk
    obtain ⟨a1, a2, hja, hja1, hja2⟩ := hjA
    obtain ⟨c1, c2, hpa, hpa1, hpa2⟩ := id hpA
    refine ⟨_, rfl, ?_⟩
    refine ⟨_, rfl, ju, _, 0, _, rfl, rfl, hja, at0, _, rfl, po, _, 0, _, rfl, rfl, hpa, at0, a1, c1, _, _, rfl, hja1, hpa1, q1, vb.c, trivial, fun m1 HB sB nB hB => ?_⟩
    refine ⟨_, rfl, ju, _, 1, _, rfl, rfl, Same.tup sB hja, at1, _, rfl, po, _, 1, _, rfl, rfl, Same.tup sB hpa, at1, a2, c2, _, _, rfl, hja2.same sB, hpa2.same sB, q2, vb.d, trivial, fun m2 HC sC nC hC => ?_⟩
    refine ⟨rfl, fun lo HD sD nD hD => ⟨rfl, fun pr HE sE nE hE => ⟨rfl, fun tt HF sF nF hF => ?_⟩⟩⟩
    have sAF := sB.trans (sC.trans (sD.trans (sE.trans sF)))
    have e1 : (S.st x).s * t - (S.st x).s * t * g = (S.st x).s * t * (1 - g) := by grind
    have e2 : (S.st x).w * t - (S.st x).w * t * g = (S.st x).w * t * (1 - g) := by grind
    have hB : FrQ K HB m1 ((S.st x).s * t - (S.st x).s * t * g) := hB
    have hC : FrQ K HC m2 ((S.st x).w * t - (S.st x).w * t * g) := hC
    rw [e1] at hB
    rw [e2] at hC
    have hlo : JuQ K HD lo ((S.st x).s * t * (1 - g)) ((S.st x).w * t * (1 - g)) := .new hD (hB.same (sC.trans sD)) (hC.same sD)
    refine q _ HF (by rw [es]; exact hkA.same sAF) ?_ ((((Off.same (s3.trans s38)).seq (o9.mono fun a e => .inr ⟨x, hx, e⟩)).seq (oA.mono fun a e => .inr ⟨y, hy, e⟩)).seq (.same sAF))
    rw [es]
    refine (told_dtu (n := 3) (SqT.of hF) (DtuAll.tup (n := 3) (.cons ((hpA.same sAF).dtu 0) (.cons ((hlo.same (sE.trans sF)).dtu 0) .nil)) (SqT.of (sF _ _ hE)) (by show 2 ≤ 100000; decide))).up (by decide)

end
end KR
namespace KR
open PySem PySem.Spec PyProof.Rows L2
section
variable {P : Program} {w : World} {K : PySem.W.Frag} {mg : Str → Option Value} {base : Heap}
def sp_kdue (K : PySem.W.Frag) : Sp := fun vs H Q _ => ∃ (B : LKA) (nms : List Str) (S : KS) (j : Nat) (d : Addr) (D : KD), vs = [.ref B.a, .ref d] ∧ LKAt K H B nms S ∧ nms.Nodup ∧ KInv nms j S ∧ j ≤ 400 ∧ KDAt K H d D ∧ KDOk nms S D ∧ KLay nms ∧
  ∀ v H', LKAt K H' B nms (kstep nms D S).1 → Dtu K H' 8 v (kstep nms D S).2 → Off K (B.R nms) H H' → Q v H'
theorem ok_l_due (T : All K mg) : FnOk P w K mg base CX0 6 T.f_l_due T.fd_l_due ["_law_state", "_law_deed_here"] (sp_kdue K) := by
  refine T.d_l_due.fn.ok sc_l_due (fun vs H Q E h => ?_) (fun cdv A outer s H vs Q E hr h => ?_)
  · obtain ⟨B, nms, S, j, d, D, rfl, _⟩ := h
    rfl
  obtain ⟨Bd, nms, S, j, d, D, rfl, hk, nd, inv, j9, hd, ok, lay, q⟩ := h
  refine ⟨_, (pss_cons (ps_par (i := 2) (j := 3) (by rfl) sc_l_due.nd rfl rfl (by decide) rfl rfl (pa_cons (pe_ix (ixT (K := K) rfl) (pv 1) pe_int (fun _ _ => rfl)) (pa_cons (pe_ix (ixT (K := K) rfl) (pv 1) pe_int (fun _ _ => rfl)) pa_nil)) (by rfl))
      (pss_cons (ps_if (pt_cmpR op_eq (pv 2) pe_str (nomark _)) (pss_cons (ps_expr (pe_call (ok_l_boil T) (hr.mono (by decide)) (by rfl) T.d_l_boil.mg T.d_l_boil.fn.kp T.d_l_boil.b .nil pass0 (pa_cons (pv 0) (pa_cons (pv 3) pa_nil))))
      (pss_one (ps_ret (pe_tupI (pa_cons pe_str (pa_cons pe_non pa_nil)))))) pss_nil)
      (pss_cons (ps_if (pt_cmpR op_eq (pv 2) pe_str (nomark _)) (pss_one (ps_ret (pe_call (ok_l_ladled T) hr (by rfl) T.d_l_ladled.mg T.d_l_ladled.fn.kp T.d_l_ladled.b .nil pass0 (pa_cons (pv 0) (pa_cons (pv 1) pa_nil))))) pss_nil)
      (pss_cons (ps_if (pt_cmpR op_eq (pv 2) pe_str (nomark _)) (pss_one (ps_ret (pe_call (ok_l_skimmed T) hr (by rfl) T.d_l_skimmed.mg T.d_l_skimmed.fn.kp T.d_l_skimmed.b .nil pass0 (pa_cons (pv 0) (pa_cons (pv 1) pa_nil))))) pss_nil)
      (pss_cons (ps_set (i := 4) sc_l_due.nd rfl (by first | exact Or.inl rfl | exact Or.inr rfl) (pe_call (ok_l_name_fault T) (hr.mono (by decide)) (by rfl) T.d_l_name_fault.mg T.d_l_name_fault.fn.kp T.d_l_name_fault.b .nil pass0 (pa_cons (pv 0) (pa_cons (pe_lstI (pa_cons (pv 3) pa_nil)) pa_nil))))
      (pss_cons (ps_if (pt_cmpR op_notN (pv 4) pe_non (nomark _)) (pss_one (ps_ret (pv 4))) pss_nil)
      (pss_cons (ps_set (i := 5) sc_l_due.nd rfl (by first | exact Or.inl rfl | exact Or.inr rfl) (pe_dget (hu_of hr) (pe_dget (hu_of hr) (pv 0) pe_str (fun _ _ => rfl)) (pv 3) (fun _ _ => rfl)))
      (pss_cons (ps_if (pt_cmpR op_eq (pv 2) pe_str (nomark _)) (pss_cons (ps_if (pt_not (pt_val (pe_call (ok_l_fits T) (hr.mono (by decide)) (by rfl) T.d_l_fits.mg T.d_l_fits.fn.kp T.d_l_fits.b .nil pass0 (pa_cons (pv 5) (pa_cons (pe_ix (ixT (K := K) rfl) (pv 1) pe_int (fun _ _ => rfl)) pa_nil))))) (pss_one (ps_ret (pe_tupI (pa_cons pe_str (pa_cons pe_str (pa_cons (pv 3) pa_nil)))))) pss_nil)
      (pss_cons (ps_expr (pe_call (ok_l_in T) (hr.mono (by decide)) (by rfl) T.d_l_in.mg T.d_l_in.fn.kp T.d_l_in.b .nil pass0 (pa_cons (pv 5) (pa_cons (pe_ix (ixT (K := K) rfl) (pv 1) pe_int (fun _ _ => rfl)) pa_nil))))
      (pss_one (ps_ret (pe_tupI (pa_cons pe_str (pa_cons pe_non pa_nil))))))) pss_nil)
      (pss_cons (ps_if (pt_cmpR op_eq (pv 2) pe_str (nomark _)) (pss_cons (ps_set (i := 4) sc_l_due.nd rfl (by first | exact Or.inl rfl | exact Or.inr rfl) (pe_call (ok_l_dip_fault T) (hr.mono (by decide)) (by rfl) T.d_l_dip_fault.mg T.d_l_dip_fault.fn.kp T.d_l_dip_fault.b .nil pass0 (pa_cons (pv 0) (pa_cons (pv 3) (pa_cons (pe_ix (ixT (K := K) rfl) (pv 1) pe_int (fun _ _ => rfl)) pa_nil)))))
      (pss_one (ps_ret (pe_ifExp (pt_cmpR op_isN (pv 4) pe_non (nomark _)) (pe_tupI (pa_cons pe_str (pa_cons (pe_call (ok_l_out T) (hr.mono (by decide)) (by rfl) T.d_l_out.mg T.d_l_out.fn.kp T.d_l_out.b .nil pass0 (pa_cons (pv 5) (pa_cons (pe_ix (ixT (K := K) rfl) (pv 1) pe_int (fun _ _ => rfl)) pa_nil))) pa_nil))) (pv 4))))) pss_nil)
      (pss_cons (ps_if (pt_cmpR op_eq (pe_ix (ixL (K := K) rfl) (pv 5) pe_int (fun _ _ => rfl)) (pe_cmpR op_eq (pv 2) pe_str (nomark _)) (nomark _)) (pss_one (ps_ret (pe_tupI (pa_cons pe_str (pa_cons (pe_ifExp (pt_val (pe_ix (ixL (K := K) rfl) (pv 5) pe_int (fun _ _ => rfl))) pe_str pe_str) (pa_cons (pv 3) pa_nil)))))) pss_nil)
      (pss_cons (ps_asg (pe_cmpR op_eq (pv 2) pe_str (nomark _)) (pg_sub (pv 5) pe_int set_list))
      (pss_one (ps_ret (pe_tupI (pa_cons pe_str (pa_cons pe_non pa_nil)))))))))))))))), ?_⟩
  obtain ⟨M, L, N, n, md, okk, gd⟩ := inv.get j9
  have dg : ∀ {H' : Hp}, LKAt K H' Bd nms S → ∀ {z : Str}, z ∈ nms → ∃ gv, DGet H' Bd.a (.str "rows") (some (.ref Bd.r)) ∧ DGet H' Bd.r (.str z) (some (.ref (Bd.c z))) ∧ H' Bd.a = some (.dK (skv S.hour gv Bd.r)) := fun hk z hz => by
    obtain ⟨gv, e, _⟩ := hk.a
    exact ⟨gv, .inl ⟨_, kN "rows", .inl e, rfl, rfl⟩, dget_n (.inl hk.r) hz, e⟩
  cases D with
  | boil t =>
    have ht : SqT K H d [.str "boil", .int t] := hd
    have t9 : t ≤ 1000 := ok
    refine ⟨_, rfl, d, _, 0, _, rfl, rfl, ht, at0, _, rfl, d, _, 1, _, rfl, rfl, ht, at1, _, _, rfl, ?_⟩
    refine ⟨_, rfl, rfl, _, rfl, ?_⟩
    rw [decide_eq_true rfl]
    refine ⟨_, rfl, _, rfl, Bd, nms, S, t, rfl, hk, nd, fun x hx => ⟨(okk x hx).kbig n t9, (okk x hx).mo⟩, fun i hi => ?_, fun H1 k1 o1 => ?_⟩
    · obtain ⟨c1, c2, c3⟩ := goff_in n t9 (nms.take i) S.gone (fun x hx => okk x (List.mem_of_mem_take hx)) gd inv.g0
      have e9 : S.gone ≤ 8000000 * 400 := by
        have a := inv.g9
        have b : (((8000000 * j : Nat) : Int) : Rat) ≤ ((3200000000 : Int) : Rat) := Rat.intCast_le_intCast.mpr (by omega)
        have c : ((3200000000 : Int) : Rat) = 8000000 * 400 := by decide +kernel
        rw [c] at b
        exact Rat.le_trans a b
      have e8 : ((((nms.take i).length : Nat) : Int) : Rat) ≤ ((8 : Int) : Rat) := Rat.intCast_le_intCast.mpr (by rw [List.length_take]; have := inv.n8; omega)
      have e2 : ((8 : Int) : Rat) = 8 := by decide +kernel
      rw [e2] at e8
      exact (show In N 4000000000 (goff t S.st (nms.take i) S.gone) from ⟨c1.up n.dml, by grind, by grind⟩).big n (by decide +kernel)
    · refine ⟨rfl, fun tt H2 s2 n2 h2 => q _ H2 (k1.same s2) ?_ (o1.seq (.same s2))⟩
      exact told_dtu (n := 6) (SqT.of h2) (.non _)
  | ladle x y t =>
    obtain ⟨kx, ky, st⟩ := ok
    obtain ⟨a, ht, ha⟩ := id hd
    refine ⟨_, rfl, d, _, 0, _, rfl, rfl, ht, at0, _, rfl, d, _, 1, _, rfl, rfl, ht, at1, _, _, rfl, ?_⟩
    refine ⟨_, rfl, rfl, _, rfl, ?_⟩
    rw [nw (by decide +kernel)]
    refine ⟨_, rfl, rfl, _, rfl, ?_⟩
    rw [decide_eq_true rfl]
    exact ⟨_, rfl, _, rfl, Bd, nms, S, j, d, x, y, t, rfl, hk, inv, j9, hd, st, kx.lay lay, ky.lay lay, q⟩
  | skim x t g y =>
    obtain ⟨kx, ky, st, sg⟩ := ok
    obtain ⟨a, b, ht, ha, hb⟩ := id hd
    refine ⟨_, rfl, d, _, 0, _, rfl, rfl, ht, at0, _, rfl, d, _, 1, _, rfl, rfl, ht, at1, _, _, rfl, ?_⟩
    refine ⟨_, rfl, rfl, _, rfl, ?_⟩
    rw [nw (by decide +kernel)]
    refine ⟨_, rfl, rfl, _, rfl, ?_⟩
    rw [nw (by decide +kernel)]
    refine ⟨_, rfl, rfl, _, rfl, ?_⟩
    rw [decide_eq_true rfl]
    exact ⟨_, rfl, _, rfl, Bd, nms, S, j, d, x, y, t, g, rfl, hk, inv, j9, hd, st, sg, kx.lay lay, ky.lay lay, q⟩
  | pour x s w =>
    obtain ⟨kn, s0, s9, w0, w9, pd⟩ := ok
    obtain ⟨j, ht, hj⟩ := hd
    have lx := kn.lay lay
    refine ⟨_, rfl, d, _, 0, _, rfl, rfl, ht, at0, _, rfl, d, _, 1, _, rfl, rfl, ht, at1, _, _, rfl, ?_⟩
    refine ⟨_, rfl, rfl, _, rfl, ?_⟩
    rw [nw (by decide +kernel)]
    refine ⟨_, rfl, rfl, _, rfl, ?_⟩
    rw [nw (by decide +kernel)]
    refine ⟨_, rfl, rfl, _, rfl, ?_⟩
    rw [nw (by decide +kernel)]
    refine ⟨_, rfl, _, rfl, rfl, fun l H1 s1 n1 h1 => ?_⟩
    have h1' : H1 l = some (.lst ([x].map V.str)) := h1
    refine ⟨Bd, nms, S, l, [x], rfl, hk.same s1, SqL.of h1', fun z hz => by rw [List.mem_singleton.mp hz]; exact lx, fun i z hi nz pre a H2 s2 hd => ?_, fun all => ?_⟩
    · match i, hi with
      | 0, hi =>
        cases hi
        have es : kstep nms (.pour x s w) S = (S, refu "kettle" (.str x)) := by unfold kstep; dsimp only; rw [if_pos nz]
        refine ⟨_, rfl, rfl, _, rfl, ?_⟩
        exact ⟨_, rfl, q _ H2 (by rw [es]; exact (hk.same s1).same s2) (by rw [es]; exact hd.up (by decide)) (.same (s1.trans s2))⟩
      | i + 1, hi => simp at hi
    have hx : x ∈ nms := all x List.mem_cons_self
    have kx := okk x hx
    have hk1 := hk.same s1
    obtain ⟨gv, dr, dx, ea⟩ := dg hk1 hx
    have ht1 := Same.tup s1 ht
    refine ⟨_, rfl, rfl, _, rfl, ?_⟩
    refine ⟨_, rfl, Bd.a, _, rfl, dr, _, rfl, Bd.r, _, rfl, dx, ?_⟩
    refine ⟨_, rfl, rfl, _, rfl, ?_⟩
    rw [decide_eq_true rfl]
    obtain ⟨⟨sdN, wdN⟩, _⟩ := pd M L md okk
    have is : In N 1000000000 s := ⟨sdN.up n.d, by grind, by grind⟩
    have iw : In N 1000000000 w := ⟨wdN.up n.d, by grind, by grind⟩
    obtain ⟨vb, v1, v2⟩ := vbig kx n is iw
    have hj1 := hj.same s1
    refine ⟨_, rfl, _, rfl, d, _, 2, _, rfl, rfl, ht1, at2, Bd.c x, _, S.st x, s, w, rfl, hk1.row x hx, hj1, vb, v1, v2, kx.room_sz, fun H2 s2 => ⟨_, rfl, ?_⟩⟩
    have hk2 := hk1.same s2
    by_cases fu : (S.st x).full s w
    · rw [decide_eq_true fu]
      have es : kstep nms (.pour x s w) S = (S, refu "room" (.str x)) := by unfold kstep; dsimp only; rw [if_neg (fun z => z hx), if_pos fu]
      refine ⟨_, rfl, rfl, fun a H3 s3 n3 h3 => ?_⟩
      refine q _ H3 (by rw [es]; exact hk2.same s3) ?_ (.same (s1.trans (s2.trans s3)))
      rw [es]
      exact (refu_dtu (SqT.of h3) (by decide +kernel) (.str _ _ lx)).up (by decide)
    rw [decide_eq_false fu]
    have es : kstep nms (.pour x s w) S = (S.put x ((S.st x).inn s w), toldD .none) := by unfold kstep; dsimp only; rw [if_neg (fun z => z hx), if_neg fu]
    refine ⟨_, rfl, _, rfl, d, _, 2, _, rfl, rfl, Same.tup s2 ht1, at2, Bd.c x, _, S.st x, s, w, rfl, hk2.row x hx, hj1.same s2, vb.a, vb.b, vb.c, vb.d, fun H3 r3 o3 => ⟨rfl, fun a H4 s4 n4 h4 => ?_⟩⟩
    refine q _ H4 (by rw [es]; exact (hk2.set hx o3 r3).same s4) ?_ (((Off.same (s1.trans s2)).seq (o3.mono fun a e => .inr ⟨x, hx, e⟩)).seq (.same s4))
    rw [es]
    exact told_dtu (n := 6) (SqT.of h4) (.non _)
  | dip x t =>
    obtain ⟨kn, st⟩ := ok
    obtain ⟨sa, ht, ha⟩ := hd
    have lx := kn.lay lay
    refine ⟨_, rfl, d, _, 0, _, rfl, rfl, ht, at0, _, rfl, d, _, 1, _, rfl, rfl, ht, at1, _, _, rfl, ?_⟩
    refine ⟨_, rfl, rfl, _, rfl, ?_⟩
    rw [nw (by decide +kernel)]
    refine ⟨_, rfl, rfl, _, rfl, ?_⟩
    rw [nw (by decide +kernel)]
    refine ⟨_, rfl, rfl, _, rfl, ?_⟩
    rw [nw (by decide +kernel)]
    refine ⟨_, rfl, _, rfl, rfl, fun l H1 s1 n1 h1 => ?_⟩
    have h1' : H1 l = some (.lst ([x].map V.str)) := h1
    refine ⟨Bd, nms, S, l, [x], rfl, hk.same s1, SqL.of h1', fun z hz => by rw [List.mem_singleton.mp hz]; exact lx, fun i z hi nz pre a H2 s2 hd => ?_, fun all => ?_⟩
    · match i, hi with
      | 0, hi =>
        cases hi
        have es : kstep nms (.dip x t) S = (S, refu "kettle" (.str x)) := by unfold kstep; dsimp only; rw [if_pos nz]
        refine ⟨_, rfl, rfl, _, rfl, ?_⟩
        exact ⟨_, rfl, q _ H2 (by rw [es]; exact (hk.same s1).same s2) (by rw [es]; exact hd.up (by decide)) (.same (s1.trans s2))⟩
      | i + 1, hi => simp at hi
    have hx : x ∈ nms := all x List.mem_cons_self
    have kx := okk x hx
    have hk1 := hk.same s1
    obtain ⟨gv, dr, dx, ea⟩ := dg hk1 hx
    have ht1 := Same.tup s1 ht
    refine ⟨_, rfl, rfl, _, rfl, ?_⟩
    refine ⟨_, rfl, Bd.a, _, rfl, dr, _, rfl, Bd.r, _, rfl, dx, ?_⟩
    refine ⟨_, rfl, rfl, _, rfl, ?_⟩
    rw [nw (by decide +kernel)]
    refine ⟨_, rfl, rfl, _, rfl, ?_⟩
    rw [decide_eq_true rfl]
    have ha1 := ha.same s1
    obtain ⟨p1, p2⟩ := kx.part_in n st
    have bs := (kx.inS n).big n (by decide +kernel)
    have bw := (kx.inW n).big n (by decide +kernel)
    refine ⟨_, rfl, _, rfl, _, rfl, d, _, 2, _, rfl, rfl, ht1, at2, Bd, nms, S, x, sa, t, rfl, hk1, hx, lx, ha1, fun no a H3 s3 hd => ?_, fun oks ni a H3 s3 hd => ?_, fun oks nn H3 s3 => ?_⟩
    · have es : kstep nms (.dip x t) S = (S, refu "share" (dq t)) := by unfold kstep; dsimp only; rw [if_neg (fun z => z hx), if_pos no]
      refine ⟨_, rfl, rfl, _, rfl, ?_⟩
      exact ⟨_, rfl, q _ H3 (by rw [es]; exact hk1.same s3) (by rw [es]; exact hd.up (by decide)) (.same (s1.trans s3))⟩
    · have es : kstep nms (.dip x t) S = (S, refu "empty" (.str x)) := by unfold kstep; dsimp only; rw [if_neg (fun z => z hx), if_neg (fun z => z oks), if_pos ni]
      refine ⟨_, rfl, rfl, _, rfl, ?_⟩
      exact ⟨_, rfl, q _ H3 (by rw [es]; exact hk1.same s3) (by rw [es]; exact hd.up (by decide)) (.same (s1.trans s3))⟩
    · have es : kstep nms (.dip x t) S = (S.put x ((S.st x).out t), toldD (dj ((S.st x).s * t) ((S.st x).w * t))) := by unfold kstep; dsimp only; rw [if_neg (fun z => z hx), if_neg (fun z => z oks), if_neg nn]
      refine ⟨_, rfl, rfl, _, rfl, ?_⟩
      refine ⟨_, rfl, _, rfl, d, _, 2, _, rfl, rfl, Same.tup s3 ht1, at2, Bd.c x, sa, S.st x, t, rfl, (hk1.same s3).row x hx, ha1.same s3, bs, bw, st.sz.1, p1.big n (by decide +kernel), p2.big n (by decide +kernel), fun z H4 r4 j4 o4 => ⟨rfl, fun a H5 s5 n5 h5 => ?_⟩⟩
      refine q _ H5 (by rw [es]; exact ((hk1.same s3).set hx o4 r4).same s5) ?_ (((Off.same (s1.trans s3)).seq (o4.mono fun a e => .inr ⟨x, hx, e⟩)).seq (.same s5))
      rw [es]
      exact (told_dtu (n := 2) (SqT.of h5) ((j4.same s5).dtu)).up (by decide)
  | stop x =>
    have kn : KNm nms x := ok
    have ht : SqT K H d [.str "stop", .str x] := hd
    have lx := kn.lay lay
    refine ⟨_, rfl, d, _, 0, _, rfl, rfl, ht, at0, _, rfl, d, _, 1, _, rfl, rfl, ht, at1, _, _, rfl, ?_⟩
    refine ⟨_, rfl, rfl, _, rfl, ?_⟩
    rw [nw (by decide +kernel)]
    refine ⟨_, rfl, rfl, _, rfl, ?_⟩
    rw [nw (by decide +kernel)]
    refine ⟨_, rfl, rfl, _, rfl, ?_⟩
    rw [nw (by decide +kernel)]
    refine ⟨_, rfl, _, rfl, rfl, fun l H1 s1 n1 h1 => ?_⟩
    have h1' : H1 l = some (.lst ([x].map V.str)) := h1
    refine ⟨Bd, nms, S, l, [x], rfl, hk.same s1, SqL.of h1', fun z hz => by rw [List.mem_singleton.mp hz]; exact lx, fun i z hi nz pre a H2 s2 hd => ?_, fun all => ?_⟩
    · match i, hi with
      | 0, hi =>
        cases hi
        have es : kstep nms (.stop x) S = (S, refu "kettle" (.str x)) := by unfold kstep; dsimp only; rw [if_pos nz]
        refine ⟨_, rfl, rfl, _, rfl, ?_⟩
        exact ⟨_, rfl, q _ H2 (by rw [es]; exact (hk.same s1).same s2) (by rw [es]; exact hd.up (by decide)) (.same (s1.trans s2))⟩
      | i + 1, hi => simp at hi
    have hx : x ∈ nms := all x List.mem_cons_self
    have kx := okk x hx
    have hk1 := hk.same s1
    obtain ⟨gv, dr, dx, ea⟩ := dg hk1 hx
    have ht1 := Same.tup s1 ht
    refine ⟨_, rfl, rfl, _, rfl, ?_⟩
    refine ⟨_, rfl, Bd.a, _, rfl, dr, _, rfl, Bd.r, _, rfl, dx, ?_⟩
    refine ⟨_, rfl, rfl, _, rfl, ?_⟩
    rw [nw (by decide +kernel)]
    refine ⟨_, rfl, rfl, _, rfl, ?_⟩
    rw [nw (by decide +kernel)]
    obtain ⟨mv, sv, wv, r1, r2, r3, r4⟩ := hk1.row x hx
    refine ⟨_, rfl, Bd.c x, _, 5, _, rfl, rfl, SqL.of r1, at5, _, rfl, rfl, ?_⟩
    rw [nw (by decide +kernel)]
    refine ⟨rfl, _, rfl, ?_⟩
    by_cases c : (S.st x).on = false
    · rw [c, decide_eq_true rfl]
      have es : kstep nms (.stop x) S = (S, refu "stopped" (.str x)) := by unfold kstep; dsimp only; rw [if_neg (fun z => z hx), if_pos c]
      refine ⟨_, rfl, Bd.c x, _, 5, _, rfl, rfl, SqL.of r1, at5, _, rfl, ?_⟩
      rw [c]
      refine ⟨_, rfl, rfl, fun a H2 s2 n2 h2 => ?_⟩
      refine q _ H2 (by rw [es]; exact hk1.same s2) ?_ (.same (s1.trans s2))
      rw [es]
      exact (refu_dtu (SqT.of h2) (by decide +kernel) (.str _ _ lx)).up (by decide)
    · rw [decide_eq_false (fun z => c (V.bl.inj z))]
      have es : kstep nms (.stop x) S = (S.put x { S.st x with on := false }, toldD .none) := by unfold kstep; dsimp only; rw [if_neg (fun z => z hx), if_neg c]
      refine ⟨_, rfl, rfl, _, rfl, Bd.c x, _, 5, 5, rfl, rfl, r1, rfl, ?_⟩
      rw [nw (by decide +kernel)]
      have oc : Off K (· = Bd.c x) H1 (upd H1 (Bd.c x) (.lst [.int (S.st x).room, .int (S.st x).fire, mv, sv, wv, .bl false])) := .put r1 .lst rfl
      refine ⟨rfl, fun a H2 s2 n2 h2 => ?_⟩
      refine q _ H2 (by rw [es]; exact (hk1.set hx oc (k := { S.st x with on := false }) ⟨mv, sv, wv, upd_same, r2.tk oc.tk, r3.tk oc.tk, r4.tk oc.tk⟩).same s2) ?_ (((Off.same s1).seq (oc.mono fun a e => .inr ⟨x, hx, e⟩)).seq (.same s2))
      rw [es]
      exact told_dtu (n := 6) (SqT.of h2) (.non _)
  | start x =>
    have kn : KNm nms x := ok
    have ht : SqT K H d [.str "start", .str x] := hd
    have lx := kn.lay lay
    refine ⟨_, rfl, d, _, 0, _, rfl, rfl, ht, at0, _, rfl, d, _, 1, _, rfl, rfl, ht, at1, _, _, rfl, ?_⟩
    refine ⟨_, rfl, rfl, _, rfl, ?_⟩
    rw [nw (by decide +kernel)]
    refine ⟨_, rfl, rfl, _, rfl, ?_⟩
    rw [nw (by decide +kernel)]
    refine ⟨_, rfl, rfl, _, rfl, ?_⟩
    rw [nw (by decide +kernel)]
    refine ⟨_, rfl, _, rfl, rfl, fun l H1 s1 n1 h1 => ?_⟩
    have h1' : H1 l = some (.lst ([x].map V.str)) := h1
    refine ⟨Bd, nms, S, l, [x], rfl, hk.same s1, SqL.of h1', fun z hz => by rw [List.mem_singleton.mp hz]; exact lx, fun i z hi nz pre a H2 s2 hd => ?_, fun all => ?_⟩
    · match i, hi with
      | 0, hi =>
        cases hi
        have es : kstep nms (.start x) S = (S, refu "kettle" (.str x)) := by unfold kstep; dsimp only; rw [if_pos nz]
        refine ⟨_, rfl, rfl, _, rfl, ?_⟩
        exact ⟨_, rfl, q _ H2 (by rw [es]; exact (hk.same s1).same s2) (by rw [es]; exact hd.up (by decide)) (.same (s1.trans s2))⟩
      | i + 1, hi => simp at hi
    have hx : x ∈ nms := all x List.mem_cons_self
    have kx := okk x hx
    have hk1 := hk.same s1
    obtain ⟨gv, dr, dx, ea⟩ := dg hk1 hx
    have ht1 := Same.tup s1 ht
    refine ⟨_, rfl, rfl, _, rfl, ?_⟩
    refine ⟨_, rfl, Bd.a, _, rfl, dr, _, rfl, Bd.r, _, rfl, dx, ?_⟩
    refine ⟨_, rfl, rfl, _, rfl, ?_⟩
    rw [nw (by decide +kernel)]
    refine ⟨_, rfl, rfl, _, rfl, ?_⟩
    rw [nw (by decide +kernel)]
    obtain ⟨mv, sv, wv, r1, r2, r3, r4⟩ := hk1.row x hx
    refine ⟨_, rfl, Bd.c x, _, 5, _, rfl, rfl, SqL.of r1, at5, _, rfl, rfl, ?_⟩
    rw [decide_eq_true rfl]
    refine ⟨rfl, _, rfl, ?_⟩
    by_cases c : (S.st x).on = true
    · rw [c, decide_eq_true rfl]
      have es : kstep nms (.start x) S = (S, refu "inwork" (.str x)) := by unfold kstep; dsimp only; rw [if_neg (fun z => z hx), if_pos c]
      refine ⟨_, rfl, Bd.c x, _, 5, _, rfl, rfl, SqL.of r1, at5, _, rfl, ?_⟩
      rw [c]
      refine ⟨_, rfl, rfl, fun a H2 s2 n2 h2 => ?_⟩
      refine q _ H2 (by rw [es]; exact hk1.same s2) ?_ (.same (s1.trans s2))
      rw [es]
      exact (refu_dtu (SqT.of h2) (by decide +kernel) (.str _ _ lx)).up (by decide)
    · rw [decide_eq_false (fun z => c (V.bl.inj z))]
      have es : kstep nms (.start x) S = (S.put x { S.st x with on := true }, toldD .none) := by unfold kstep; dsimp only; rw [if_neg (fun z => z hx), if_neg c]
      refine ⟨_, rfl, rfl, _, rfl, Bd.c x, _, 5, 5, rfl, rfl, r1, rfl, ?_⟩
      rw [decide_eq_true rfl]
      have oc : Off K (· = Bd.c x) H1 (upd H1 (Bd.c x) (.lst [.int (S.st x).room, .int (S.st x).fire, mv, sv, wv, .bl true])) := .put r1 .lst rfl
      refine ⟨rfl, fun a H2 s2 n2 h2 => ?_⟩
      refine q _ H2 (by rw [es]; exact (hk1.set hx oc (k := { S.st x with on := true }) ⟨mv, sv, wv, upd_same, r2.tk oc.tk, r3.tk oc.tk, r4.tk oc.tk⟩).same s2) ?_ (((Off.same s1).seq (oc.mono fun a e => .inr ⟨x, hx, e⟩)).seq (.same s2))
      rw [es]
      exact told_dtu (n := 6) (SqT.of h2) (.non _)

end
end KR
namespace KR
open PySem PySem.Spec PyProof.Rows L2
section
variable {P : Program} {w : World} {K : PySem.W.Frag} {mg : Str → Option Value} {base : Heap}
/-- the word of a refusal, its class -/
def Sev (T : All K mg) (w : Str) (C : Addr) (nm : Str) : Prop := (w = "kettle" ∧ C = T.C_NoKettle ∧ nm = "NoKettle") ∨ (w = "room" ∧ C = T.C_NoRoom ∧ nm = "NoRoom") ∨ (w = "share" ∧ C = T.C_NoShare ∧ nm = "NoShare") ∨ (w = "empty" ∧ C = T.C_Empty ∧ nm = "Empty") ∨ (w = "same" ∧ C = T.C_Same ∧ nm = "Same") ∨ (w = "stopped" ∧ C = T.C_Stopped ∧ nm = "Stopped") ∨ (w = "inwork" ∧ C = T.C_InWork ∧ nm = "InWork")
def sp_kask (T : All K mg) : Sp := fun vs H Q E => ∃ (A : KAd) (nms : List Str) (S : KS) (j : Nat) (d : Addr) (D : KD), vs = [.ref A.p, .ref d] ∧ KettlesAt K T.C_Kettles T.C_Kettle H A nms S ∧ nms.Nodup ∧ KInv nms j S ∧ j ≤ 400 ∧ KDAt K H d D ∧ KDOk nms S D ∧ KLay nms ∧
  (∀ v dd H', (kstep nms D S).2 = toldD dd → KettlesAt K T.C_Kettles T.C_Kettle H' A nms (kstep nms D S).1 → Dtu K H' 6 v dd → Off K (A.R nms) H H' → Q v H') ∧
  (∀ w dd v C nm H', kstep nms D S = (S, refu w dd) → Sev T w C nm → PyData.canLay0 (.str w) = true → Same H H' → Dtu K H' 3 v dd → Rf C nm v H' E)
theorem ok_l_ask (T : All K mg) : FnOk P w K mg base (L2.CX P w) 8 T.f_l_ask T.fd_l_ask ["_law_kettles", "_law_deed_here"] (sp_kask T) := by
  refine T.d_l_ask.fn.okX sc_l_ask (fun vs H Q E h => ?_) (fun cdv A outer s H vs Q E hr h => ?_)
  · obtain ⟨A, nms, S, j, d, D, rfl, _⟩ := h
    rfl
  obtain ⟨Ad, nms, S, j, d, D, rfl, hk, nd, inv, j9, hd, ok, lay, q, qr⟩ := h
  refine ⟨_, (pss_cons (ps_par (i := 2) (j := 3) (by rfl) sc_l_ask.nd rfl rfl (by decide) rfl rfl (pa_cons (pe_ix (ixT (K := K) rfl) (pv 1) pe_int (fun _ _ => rfl)) (pa_cons (pe_ix (ixT (K := K) rfl) (pv 1) pe_int (fun _ _ => rfl)) pa_nil)) (by rfl))
      (pss_cons (ps_if (pt_cmpR op_eq (pv 2) pe_str (nomark _)) (pss_one (ps_ret (pe_meth (pv 0) T.L_Kettles T.m_Kettles_boil_on (ok_Kettles_boil_on T) (hr.mono (by decide)) T.b_Kettles_boil_on .nil pass0 (pa_cons (pv 3) pa_nil)))) pss_nil)
      (pss_cons (ps_if (pt_cmpR op_eq (pv 2) pe_str (nomark _)) (pss_one (ps_ret (pe_meth (pv 0) T.L_Kettles T.m_Kettles_pour (ok_Kettles_pour T) (hr.mono (by decide)) T.b_Kettles_pour .nil (passes_call (takes_of rfl rfl rfl rfl) (fun _ _ _ _ h => h)) (pa_cons (pv 3) (pa_cons (pe_ix (ixT (K := K) rfl) (pv 1) pe_int (fun _ _ => rfl)) pa_nil))))) pss_nil)
      (pss_cons (ps_if (pt_cmpR op_eq (pv 2) pe_str (nomark _)) (pss_one (ps_ret (pe_meth (pv 0) T.L_Kettles T.m_Kettles_dip (ok_Kettles_dip T) (hr.mono (by decide)) T.b_Kettles_dip .nil (passes_call (takes_of rfl rfl rfl rfl) (fun _ _ _ _ h => h)) (pa_cons (pv 3) (pa_cons (pe_ix (ixT (K := K) rfl) (pv 1) pe_int (fun _ _ => rfl)) pa_nil))))) pss_nil)
      (pss_cons (ps_if (pt_cmpR op_eq (pv 2) pe_str (nomark _)) (pss_one (ps_ret (pe_meth (pv 0) T.L_Kettles T.m_Kettles_ladle (ok_Kettles_ladle T) hr T.b_Kettles_ladle .nil (passes_call (takes_of rfl rfl rfl rfl) (fun _ _ _ _ h => h)) (pa_cons (pv 3) (pa_cons (pe_ix (ixT (K := K) rfl) (pv 1) pe_int (fun _ _ => rfl)) (pa_cons (pe_ix (ixT (K := K) rfl) (pv 1) pe_int (fun _ _ => rfl)) pa_nil)))))) pss_nil)
      (pss_cons (ps_if (pt_cmpR op_eq (pv 2) pe_str (nomark _)) (pss_one (ps_ret (pe_meth (pv 0) T.L_Kettles T.m_Kettles_skim (ok_Kettles_skim T) hr T.b_Kettles_skim .nil (passes_call (takes_of rfl rfl rfl rfl) (fun _ _ _ _ h => h)) (pa_cons (pv 3) (pa_cons (pe_ix (ixT (K := K) rfl) (pv 1) pe_int (fun _ _ => rfl)) (pa_cons (pe_ix (ixT (K := K) rfl) (pv 1) pe_int (fun _ _ => rfl)) (pa_cons (pe_ix (ixT (K := K) rfl) (pv 1) pe_int (fun _ _ => rfl)) pa_nil))))))) pss_nil)
      (pss_one (ps_ret (pe_ifExp (pt_cmpR op_eq (pv 2) pe_str (nomark _)) (pe_meth (pv 0) T.L_Kettles T.m_Kettles_stop (ok_Kettles_stop T) (hr.mono (by decide)) T.b_Kettles_stop .nil (passes_call (takes_of rfl rfl rfl rfl) (fun _ _ _ _ h => h)) (pa_cons (pv 3) pa_nil)) (pe_meth (pv 0) T.L_Kettles T.m_Kettles_start (ok_Kettles_start T) (hr.mono (by decide)) T.b_Kettles_start .nil (passes_call (takes_of rfl rfl rfl rfl) (fun _ _ _ _ h => h)) (pa_cons (pv 3) pa_nil))))))))))), ?_⟩
  obtain ⟨M, L, N, n, md, okk, gd⟩ := inv.get j9
  obtain ⟨dx, rv, bv, hp, _⟩ := hk.p
  cases D with
  | boil t =>
    have ht : SqT K H d [.str "boil", .int t] := hd
    have t9 : t ≤ 1000 := ok
    refine ⟨_, rfl, d, _, 0, _, rfl, rfl, ht, at0, _, rfl, d, _, 1, _, rfl, rfl, ht, at1, _, _, rfl, ?_⟩
    refine ⟨_, rfl, rfl, _, rfl, ?_⟩
    rw [decide_eq_true rfl]
    refine ⟨_, rfl, Ad.p, dx, _, rfl, hp, rfl, _, rfl, Ad, nms, S, t, rfl, hk, nd, fun x hx => (okk x hx).kbig n t9, fun i hi => ?_, fun H1 k1 o1 => q .non .none H1 rfl k1 (.non _) o1⟩
    obtain ⟨c1, c2, c3⟩ := goff_in n t9 (nms.take i) S.gone (fun x hx => okk x (List.mem_of_mem_take hx)) gd inv.g0
    have e9 : S.gone ≤ 8000000 * 400 := by
      have a := inv.g9
      have b : (((8000000 * j : Nat) : Int) : Rat) ≤ ((3200000000 : Int) : Rat) := Rat.intCast_le_intCast.mpr (by omega)
      have c : ((3200000000 : Int) : Rat) = 8000000 * 400 := by decide +kernel
      rw [c] at b
      exact Rat.le_trans a b
    have e8 : ((((nms.take i).length : Nat) : Int) : Rat) ≤ ((8 : Int) : Rat) := Rat.intCast_le_intCast.mpr (by rw [List.length_take]; have := inv.n8; omega)
    have e2 : ((8 : Int) : Rat) = 8 := by decide +kernel
    rw [e2] at e8
    exact (show In N 4000000000 (goff t S.st (nms.take i) S.gone) from ⟨c1.up n.dml, by grind, by grind⟩).big n (by decide +kernel)
  | pour x s w =>
    obtain ⟨kn, s0, s9, w0, w9, pd⟩ := ok
    obtain ⟨j, ht, hj⟩ := hd
    have lx := kn.lay lay
    obtain ⟨⟨sdN, wdN⟩, _⟩ := pd M L md okk
    have is : In N 1000000000 s := ⟨sdN.up n.d, by grind, by grind⟩
    have iw : In N 1000000000 w := ⟨wdN.up n.d, by grind, by grind⟩
    refine ⟨_, rfl, d, _, 0, _, rfl, rfl, ht, at0, _, rfl, d, _, 1, _, rfl, rfl, ht, at1, _, _, rfl, ?_⟩
    refine ⟨_, rfl, rfl, _, rfl, ?_⟩
    rw [nw (by decide +kernel)]
    refine ⟨_, rfl, rfl, _, rfl, ?_⟩
    rw [decide_eq_true rfl]
    refine ⟨_, rfl, Ad.p, dx, _, rfl, hp, rfl, _, rfl, _, rfl, d, _, 2, _, rfl, rfl, ht, at2, Ad, nms, S, x, _, s, w, rfl, hk, hj, fun hx => ⟨(vbig (okk x hx) n is iw).1, (okk x hx).room_sz⟩, fun nx => ?_, fun hx fu => ?_, fun hx nf H1 k1 o1 => ?_⟩
    · exact qr "kettle" (.str x) (.str x) _ _ H (by unfold kstep; dsimp only; rw [if_pos nx]) (.inl ⟨rfl, rfl, rfl⟩) (by decide +kernel) (Same.refl _) (.str _ _ lx)
    · exact qr "room" (.str x) (.str x) _ _ H (by unfold kstep; dsimp only; rw [if_neg (fun z => z hx), if_pos (show (S.st x).full s w from fu)]) (.inr (.inl ⟨rfl, rfl, rfl⟩)) (by decide +kernel) (Same.refl _) (.str _ _ lx)
    · have es : kstep nms (.pour x s w) S = (S.put x ((S.st x).inn s w), toldD .none) := by unfold kstep; dsimp only; rw [if_neg (fun z => z hx), if_neg (show ¬ (S.st x).full s w from nf)]
      exact q .non .none H1 (by rw [es]) (by rw [es]; exact k1) (.non _) o1
  | dip x t =>
    obtain ⟨kn, st⟩ := ok
    obtain ⟨sa, ht, ha⟩ := hd
    have lx := kn.lay lay
    refine ⟨_, rfl, d, _, 0, _, rfl, rfl, ht, at0, _, rfl, d, _, 1, _, rfl, rfl, ht, at1, _, _, rfl, ?_⟩
    refine ⟨_, rfl, rfl, _, rfl, ?_⟩
    rw [nw (by decide +kernel)]
    refine ⟨_, rfl, rfl, _, rfl, ?_⟩
    rw [nw (by decide +kernel)]
    refine ⟨_, rfl, rfl, _, rfl, ?_⟩
    rw [decide_eq_true rfl]
    refine ⟨_, rfl, Ad.p, dx, _, rfl, hp, rfl, _, rfl, _, rfl, d, _, 2, _, rfl, rfl, ht, at2, Ad, nms, S, x, sa, t, rfl, hk, ha, fun hx => ⟨((okk x hx).inS n).big n (by decide +kernel), ((okk x hx).inW n).big n (by decide +kernel)⟩, st.sz.1, st.sz.2, fun nx => ?_, fun hx no => ?_, fun hx oks ni => ?_, fun hx oks nn z H1 k1 j1 o1 => ?_⟩
    · exact qr "kettle" (.str x) (.str x) _ _ H (by unfold kstep; dsimp only; rw [if_pos nx]) (.inl ⟨rfl, rfl, rfl⟩) (by decide +kernel) (Same.refl _) (.str _ _ lx)
    · exact qr "share" (dq t) (.ref sa) _ _ H (by unfold kstep; dsimp only; rw [if_neg (fun z => z hx), if_pos no]) (.inr (.inr (.inl ⟨rfl, rfl, rfl⟩))) (by decide +kernel) (Same.refl _) (ha.dtu 1)
    · exact qr "empty" (.str x) (.str x) _ _ H (by unfold kstep; dsimp only; rw [if_neg (fun z => z hx), if_neg (fun z => z oks), if_pos ni]) (.inr (.inr (.inr (.inl ⟨rfl, rfl, rfl⟩)))) (by decide +kernel) (Same.refl _) (.str _ _ lx)
    · have es : kstep nms (.dip x t) S = (S.put x ((S.st x).out t), toldD (dj ((S.st x).s * t) ((S.st x).w * t))) := by unfold kstep; dsimp only; rw [if_neg (fun z => z hx), if_neg (fun z => z oks), if_neg nn]
      exact q (.ref z) _ H1 (by rw [es]) (by rw [es]; exact k1) (j1.dtu 3) o1
  | ladle x y t =>
    obtain ⟨kx, ky, st⟩ := ok
    obtain ⟨sa, ht, ha⟩ := hd
    have lx := kx.lay lay
    have ly := ky.lay lay
    refine ⟨_, rfl, d, _, 0, _, rfl, rfl, ht, at0, _, rfl, d, _, 1, _, rfl, rfl, ht, at1, _, _, rfl, ?_⟩
    refine ⟨_, rfl, rfl, _, rfl, ?_⟩
    rw [nw (by decide +kernel)]
    refine ⟨_, rfl, rfl, _, rfl, ?_⟩
    rw [nw (by decide +kernel)]
    refine ⟨_, rfl, rfl, _, rfl, ?_⟩
    rw [nw (by decide +kernel)]
    refine ⟨_, rfl, rfl, _, rfl, ?_⟩
    rw [decide_eq_true rfl]
    refine ⟨_, rfl, Ad.p, dx, _, rfl, hp, rfl, _, rfl, _, rfl, d, _, 2, _, rfl, rfl, ht, at2, _, rfl, d, _, 3, _, rfl, rfl, ht, at3, Ad, nms, S, x, y, sa, t, rfl, hk, ha, fun hx hy => ?_, st.sz.1, st.sz.2, fun nx => ?_, fun hx ny => ?_, fun hx hy e => ?_, fun hx hy ne no => ?_, fun hx hy ne oks ni => ?_, fun hx hy ne oks nn fu H' s' => ?_, fun hx hy ne oks nn nf z H1 k1 j1 o1 => ?_⟩
    · obtain ⟨p1, p2⟩ := (okk x hx).part_in n st
      exact ⟨((okk x hx).inS n).big n (by decide +kernel), ((okk x hx).inW n).big n (by decide +kernel), (vbig2 n (((okk y hy).inS n).mono (by decide +kernel)) (((okk y hy).inW n).mono (by decide +kernel)) (p1.mono (by decide +kernel)) (p2.mono (by decide +kernel))).1, (okk y hy).room_sz⟩
    · exact qr "kettle" (.str x) (.str x) _ _ H (by unfold kstep; dsimp only; rw [if_pos nx]) (.inl ⟨rfl, rfl, rfl⟩) (by decide +kernel) (Same.refl _) (.str _ _ lx)
    · exact qr "kettle" (.str y) (.str y) _ _ H (by unfold kstep; dsimp only; rw [if_neg (fun z => z hx), if_pos ny]) (.inl ⟨rfl, rfl, rfl⟩) (by decide +kernel) (Same.refl _) (.str _ _ ly)
    · exact qr "same" (.str x) (.str x) _ _ H (by unfold kstep; dsimp only; rw [if_neg (fun z => z hx), if_neg (fun z => z hy), if_pos e]) (.inr (.inr (.inr (.inr (.inl ⟨rfl, rfl, rfl⟩))))) (by decide +kernel) (Same.refl _) (.str _ _ lx)
    · exact qr "share" (dq t) (.ref sa) _ _ H (by unfold kstep; dsimp only; rw [if_neg (fun z => z hx), if_neg (fun z => z hy), if_neg ne, if_pos no]) (.inr (.inr (.inl ⟨rfl, rfl, rfl⟩))) (by decide +kernel) (Same.refl _) (ha.dtu 1)
    · exact qr "empty" (.str x) (.str x) _ _ H (by unfold kstep; dsimp only; rw [if_neg (fun z => z hx), if_neg (fun z => z hy), if_neg ne, if_neg (fun z => z oks), if_pos ni]) (.inr (.inr (.inr (.inl ⟨rfl, rfl, rfl⟩)))) (by decide +kernel) (Same.refl _) (.str _ _ lx)
    · exact qr "room" (.str y) (.str y) _ _ H' (by unfold kstep; dsimp only; rw [if_neg (fun z => z hx), if_neg (fun z => z hy), if_neg ne, if_neg (fun z => z oks), if_neg nn, if_pos fu]) (.inr (.inl ⟨rfl, rfl, rfl⟩)) (by decide +kernel) s' (.str _ _ ly)
    · have es : kstep nms (.ladle x y t) S = ((S.put y ((S.st y).inn ((S.st x).s * t) ((S.st x).w * t))).put x ((S.st x).out t), toldD (dj ((S.st x).s * t) ((S.st x).w * t))) := by
        unfold kstep; dsimp only; rw [if_neg (fun z => z hx), if_neg (fun z => z hy), if_neg ne, if_neg (fun z => z oks), if_neg nn, if_neg nf]
      exact q (.ref z) _ H1 (by rw [es]) (by rw [es]; exact k1) (j1.dtu 3) o1
  | skim x t g y =>
    obtain ⟨kx, ky, st, sg⟩ := ok
    obtain ⟨sa, ga, ht, ha, hg⟩ := hd
    have lx := kx.lay lay
    have ly := ky.lay lay
    refine ⟨_, rfl, d, _, 0, _, rfl, rfl, ht, at0, _, rfl, d, _, 1, _, rfl, rfl, ht, at1, _, _, rfl, ?_⟩
    refine ⟨_, rfl, rfl, _, rfl, ?_⟩
    rw [nw (by decide +kernel)]
    refine ⟨_, rfl, rfl, _, rfl, ?_⟩
    rw [nw (by decide +kernel)]
    refine ⟨_, rfl, rfl, _, rfl, ?_⟩
    rw [nw (by decide +kernel)]
    refine ⟨_, rfl, rfl, _, rfl, ?_⟩
    rw [nw (by decide +kernel)]
    refine ⟨_, rfl, rfl, _, rfl, ?_⟩
    rw [decide_eq_true rfl]
    refine ⟨_, rfl, Ad.p, dx, _, rfl, hp, rfl, _, rfl, _, rfl, d, _, 2, _, rfl, rfl, ht, at2, _, rfl, d, _, 3, _, rfl, rfl, ht, at3, _, rfl, d, _, 4, _, rfl, rfl, ht, at4, Ad, nms, S, x, y, sa, ga, t, g, rfl, hk, ha, hg, fun hx hy => ?_, st.sz.1, st.sz.2, sg.sz.1, sg.sz.2, fun nx => ?_, fun hx ny => ?_, fun hx hy no => ?_, fun hx hy oks gn ng => ?_, fun hx hy oks og ni => ?_, fun hx hy oks og nn fu H' s' => ?_, fun hx hy oks og nn nf z H1 k1 j1 o1 => ?_⟩
    · obtain ⟨p1, p2⟩ := (okk x hx).part_in n st
      obtain ⟨r1, r2⟩ := (okk x hx).part2_in n st sg
      obtain ⟨b1, b2, b3⟩ := bef_in (okk x hx) (okk y hy) n st
      exact ⟨((okk x hx).inS n).big n (by decide +kernel), ((okk x hx).inW n).big n (by decide +kernel), p1.big n (by decide +kernel), p2.big n (by decide +kernel), (vbig2 n (b1.mono (by decide +kernel)) (b2.mono (by decide +kernel)) (r1.mono (by decide +kernel)) (r2.mono (by decide +kernel))).1, (okk y hy).room_sz⟩
    · exact qr "kettle" (.str x) (.str x) _ _ H (by unfold kstep; dsimp only; rw [if_pos nx]) (.inl ⟨rfl, rfl, rfl⟩) (by decide +kernel) (Same.refl _) (.str _ _ lx)
    · exact qr "kettle" (.str y) (.str y) _ _ H (by unfold kstep; dsimp only; rw [if_neg (fun z => z hx), if_pos ny]) (.inl ⟨rfl, rfl, rfl⟩) (by decide +kernel) (Same.refl _) (.str _ _ ly)
    · exact qr "share" (dq t) (.ref sa) _ _ H (by unfold kstep; dsimp only; rw [if_neg (fun z => z hx), if_neg (fun z => z hy), if_pos no]) (.inr (.inr (.inl ⟨rfl, rfl, rfl⟩))) (by decide +kernel) (Same.refl _) (ha.dtu 1)
    · exact qr "share" (dq g) (.ref ga) _ _ H (by unfold kstep; dsimp only; rw [if_neg (fun z => z hx), if_neg (fun z => z hy), if_neg (fun z => z oks), if_pos ⟨gn, ng⟩]) (.inr (.inr (.inl ⟨rfl, rfl, rfl⟩))) (by decide +kernel) (Same.refl _) (hg.dtu 1)
    · have og' : ¬ (g ≠ 0 ∧ ¬ ShOk g) := fun z => og.elim z.1 z.2
      exact qr "empty" (.str x) (.str x) _ _ H (by unfold kstep; dsimp only; rw [if_neg (fun z => z hx), if_neg (fun z => z hy), if_neg (fun z => z oks), if_neg og', if_pos ni]) (.inr (.inr (.inr (.inl ⟨rfl, rfl, rfl⟩)))) (by decide +kernel) (Same.refl _) (.str _ _ lx)
    · have og' : ¬ (g ≠ 0 ∧ ¬ ShOk g) := fun z => og.elim z.1 z.2
      exact qr "room" (.str y) (.str y) _ _ H' (by unfold kstep; dsimp only; rw [if_neg (fun z => z hx), if_neg (fun z => z hy), if_neg (fun z => z oks), if_neg og', if_neg nn, if_pos fu]) (.inr (.inl ⟨rfl, rfl, rfl⟩)) (by decide +kernel) s' (.str _ _ ly)
    · have og' : ¬ (g ≠ 0 ∧ ¬ ShOk g) := fun z => og.elim z.1 z.2
      have es : kstep nms (.skim x t g y) S = ((S.put x ((S.st x).out t)).put y ((Ke.bef S x y t).inn ((S.st x).s * t * g) ((S.st x).w * t * g)), toldD (.tuple [dj ((S.st x).s * t * g) ((S.st x).w * t * g), dj ((S.st x).s * t * (1 - g)) ((S.st x).w * t * (1 - g))])) := by
        unfold kstep; dsimp only; rw [if_neg (fun z => z hx), if_neg (fun z => z hy), if_neg (fun z => z oks), if_neg og', if_neg nn, if_neg nf]
      obtain ⟨p, r, hz, hp1, hr1⟩ := j1
      exact q (.ref z) _ H1 (by rw [es]) (by rw [es]; exact k1) (DtuAll.tup (n := 5) (.cons (hp1.dtu 2) (.cons (hr1.dtu 2) .nil)) hz (by show 2 ≤ 100000; decide)) o1
  | stop x =>
    have kn : KNm nms x := ok
    have ht : SqT K H d [.str "stop", .str x] := hd
    have lx := kn.lay lay
    refine ⟨_, rfl, d, _, 0, _, rfl, rfl, ht, at0, _, rfl, d, _, 1, _, rfl, rfl, ht, at1, _, _, rfl, ?_⟩
    refine ⟨_, rfl, rfl, _, rfl, ?_⟩
    rw [nw (by decide +kernel)]
    refine ⟨_, rfl, rfl, _, rfl, ?_⟩
    rw [nw (by decide +kernel)]
    refine ⟨_, rfl, rfl, _, rfl, ?_⟩
    rw [nw (by decide +kernel)]
    refine ⟨_, rfl, rfl, _, rfl, ?_⟩
    rw [nw (by decide +kernel)]
    refine ⟨_, rfl, rfl, _, rfl, ?_⟩
    rw [nw (by decide +kernel)]
    refine ⟨_, rfl, rfl, _, rfl, ?_⟩
    rw [decide_eq_true rfl]
    refine ⟨_, rfl, Ad.p, dx, _, rfl, hp, rfl, _, rfl, Ad, nms, S, x, rfl, hk, fun nx => ?_, fun hx ho => ?_, fun hx ho H1 k1 o1 => ?_⟩
    · exact qr "kettle" (.str x) (.str x) _ _ H (by unfold kstep; dsimp only; rw [if_pos nx]) (.inl ⟨rfl, rfl, rfl⟩) (by decide +kernel) (Same.refl _) (.str _ _ lx)
    · exact qr "stopped" (.str x) (.str x) _ _ H (by unfold kstep; dsimp only; rw [if_neg (fun z => z hx), if_pos ho]) (.inr (.inr (.inr (.inr (.inr (.inl ⟨rfl, rfl, rfl⟩)))))) (by decide +kernel) (Same.refl _) (.str _ _ lx)
    · have es : kstep nms (.stop x) S = (S.put x { S.st x with on := false }, toldD .none) := by unfold kstep; dsimp only; rw [if_neg (fun z => z hx), if_neg ho]
      exact q .non .none H1 (by rw [es]) (by rw [es]; exact k1) (.non _) o1
  | start x =>
    have kn : KNm nms x := ok
    have ht : SqT K H d [.str "start", .str x] := hd
    have lx := kn.lay lay
    refine ⟨_, rfl, d, _, 0, _, rfl, rfl, ht, at0, _, rfl, d, _, 1, _, rfl, rfl, ht, at1, _, _, rfl, ?_⟩
    refine ⟨_, rfl, rfl, _, rfl, ?_⟩
    rw [nw (by decide +kernel)]
    refine ⟨_, rfl, rfl, _, rfl, ?_⟩
    rw [nw (by decide +kernel)]
    refine ⟨_, rfl, rfl, _, rfl, ?_⟩
    rw [nw (by decide +kernel)]
    refine ⟨_, rfl, rfl, _, rfl, ?_⟩
    rw [nw (by decide +kernel)]
    refine ⟨_, rfl, rfl, _, rfl, ?_⟩
    rw [nw (by decide +kernel)]
    refine ⟨_, rfl, rfl, _, rfl, ?_⟩
    rw [nw (by decide +kernel)]
    refine ⟨_, rfl, Ad.p, dx, _, rfl, hp, rfl, _, rfl, Ad, nms, S, x, rfl, hk, fun nx => ?_, fun hx ho => ?_, fun hx ho H1 k1 o1 => ?_⟩
    · exact qr "kettle" (.str x) (.str x) _ _ H (by unfold kstep; dsimp only; rw [if_pos nx]) (.inl ⟨rfl, rfl, rfl⟩) (by decide +kernel) (Same.refl _) (.str _ _ lx)
    · exact qr "inwork" (.str x) (.str x) _ _ H (by unfold kstep; dsimp only; rw [if_neg (fun z => z hx), if_pos ho]) (.inr (.inr (.inr (.inr (.inr (.inr ⟨rfl, rfl, rfl⟩)))))) (by decide +kernel) (Same.refl _) (.str _ _ lx)
    · have es : kstep nms (.start x) S = (S.put x { S.st x with on := true }, toldD .none) := by unfold kstep; dsimp only; rw [if_neg (fun z => z hx), if_neg ho]
      exact q .non .none H1 (by rw [es]) (by rw [es]; exact k1) (.non _) o1

end
end KR
namespace KR
open PySem PySem.Spec PyProof.Rows L2
section
variable {P : Program} {w : World} {K : PySem.W.Frag} {mg : Str → Option Value} {base : Heap}
abbrev sevW : List V := [.str "kettle", .str "room", .str "share", .str "empty", .str "same", .str "stopped", .str "inwork"]
theorem seven_of (T : All K mg) {C : Addr} {w nm : Str} (h : Sev T w C nm) : ∃ (b1 b2 b3 b4 b5 b6 b7 : Bool) (j : Nat), PySem.W.kitOne K (.ref C) (.ref T.C_NoKettle) = some b1 ∧ PySem.W.kitOne K (.ref C) (.ref T.C_NoRoom) = some b2 ∧ PySem.W.kitOne K (.ref C) (.ref T.C_NoShare) = some b3 ∧ PySem.W.kitOne K (.ref C) (.ref T.C_Empty) = some b4 ∧ PySem.W.kitOne K (.ref C) (.ref T.C_Same) = some b5 ∧ PySem.W.kitOne K (.ref C) (.ref T.C_Stopped) = some b6 ∧ PySem.W.kitOne K (.ref C) (.ref T.C_InWork) = some b7 ∧ PySem.W.kitAny K (.ref C) [.ref T.C_BadDeed, .ref T.C_BadFrac, .ref T.C_BadKettles, .ref T.C_BadMoulds, .ref T.C_BadRow, .ref T.C_Cured, .ref T.C_NoHour, .ref T.C_NoMould, .ref T.C_NoSteady] = some false ∧ PySem.W.kitAny K (.ref C) [.ref T.C_NoTelling, .ref T.C_NotCured, .ref T.C_NotReady, .ref T.C_TooStrong] = some false ∧ PySem.W.kitOne K (.ref C) (.type "ValueError") = some true ∧
    countIn (.bool true) ([b1, b2, b3, b4, b5, b6, b7].map PyData.bool) = 1 ∧ ([b1, b2, b3, b4, b5, b6, b7].map V.bl)[j]? = some (.bl true) ∧ (∀ i, i < j → ([b1, b2, b3, b4, b5, b6, b7].map V.bl)[i]? = some (.bl false)) ∧ sevW[j]? = some (.str w) ∧ PySem.W.exmOne K (.ref C) (.ref T.C_BoilError) = some true ∧ ExcFacts K C := by
  rcases h with ⟨rfl, rfl, rfl⟩ | ⟨rfl, rfl, rfl⟩ | ⟨rfl, rfl, rfl⟩ | ⟨rfl, rfl, rfl⟩ | ⟨rfl, rfl, rfl⟩ | ⟨rfl, rfl, rfl⟩ | ⟨rfl, rfl, rfl⟩
  · exact ⟨_, _, _, _, _, _, _, 0, T.kk_NoKettle_NoKettle, T.kk_NoKettle_NoRoom, T.kk_NoKettle_NoShare, T.kk_NoKettle_Empty, T.kk_NoKettle_Same, T.kk_NoKettle_Stopped, T.kk_NoKettle_InWork, kitAny_cons T.kk_NoKettle_BadDeed (fun _ => kitAny_cons T.kk_NoKettle_BadFrac (fun _ => kitAny_cons T.kk_NoKettle_BadKettles (fun _ => kitAny_cons T.kk_NoKettle_BadMoulds (fun _ => kitAny_cons T.kk_NoKettle_BadRow (fun _ => kitAny_cons T.kk_NoKettle_Cured (fun _ => kitAny_cons T.kk_NoKettle_NoHour (fun _ => kitAny_cons T.kk_NoKettle_NoMould (fun _ => kitAny_cons T.kk_NoKettle_NoSteady (fun _ => rfl) (fun z => nomatch z)) (fun z => nomatch z)) (fun z => nomatch z)) (fun z => nomatch z)) (fun z => nomatch z)) (fun z => nomatch z)) (fun z => nomatch z)) (fun z => nomatch z)) (fun z => nomatch z), kitAny_cons T.kk_NoKettle_NoTelling (fun _ => kitAny_cons T.kk_NoKettle_NotCured (fun _ => kitAny_cons T.kk_NoKettle_NotReady (fun _ => kitAny_cons T.kk_NoKettle_TooStrong (fun _ => rfl) (fun z => nomatch z)) (fun z => nomatch z)) (fun z => nomatch z)) (fun z => nomatch z), T.kV_NoKettle, rfl, rfl, fun i hi => absurd hi (by omega), rfl, T.te_NoKettle, T.E_NoKettle⟩
  · exact ⟨_, _, _, _, _, _, _, 1, T.kk_NoRoom_NoKettle, T.kk_NoRoom_NoRoom, T.kk_NoRoom_NoShare, T.kk_NoRoom_Empty, T.kk_NoRoom_Same, T.kk_NoRoom_Stopped, T.kk_NoRoom_InWork, kitAny_cons T.kk_NoRoom_BadDeed (fun _ => kitAny_cons T.kk_NoRoom_BadFrac (fun _ => kitAny_cons T.kk_NoRoom_BadKettles (fun _ => kitAny_cons T.kk_NoRoom_BadMoulds (fun _ => kitAny_cons T.kk_NoRoom_BadRow (fun _ => kitAny_cons T.kk_NoRoom_Cured (fun _ => kitAny_cons T.kk_NoRoom_NoHour (fun _ => kitAny_cons T.kk_NoRoom_NoMould (fun _ => kitAny_cons T.kk_NoRoom_NoSteady (fun _ => rfl) (fun z => nomatch z)) (fun z => nomatch z)) (fun z => nomatch z)) (fun z => nomatch z)) (fun z => nomatch z)) (fun z => nomatch z)) (fun z => nomatch z)) (fun z => nomatch z)) (fun z => nomatch z), kitAny_cons T.kk_NoRoom_NoTelling (fun _ => kitAny_cons T.kk_NoRoom_NotCured (fun _ => kitAny_cons T.kk_NoRoom_NotReady (fun _ => kitAny_cons T.kk_NoRoom_TooStrong (fun _ => rfl) (fun z => nomatch z)) (fun z => nomatch z)) (fun z => nomatch z)) (fun z => nomatch z), T.kV_NoRoom, rfl, rfl, fun i hi => (match i, hi with | 0, _ => rfl | i + 1, h => absurd h (by omega)), rfl, T.te_NoRoom, T.E_NoRoom⟩
  · exact ⟨_, _, _, _, _, _, _, 2, T.kk_NoShare_NoKettle, T.kk_NoShare_NoRoom, T.kk_NoShare_NoShare, T.kk_NoShare_Empty, T.kk_NoShare_Same, T.kk_NoShare_Stopped, T.kk_NoShare_InWork, kitAny_cons T.kk_NoShare_BadDeed (fun _ => kitAny_cons T.kk_NoShare_BadFrac (fun _ => kitAny_cons T.kk_NoShare_BadKettles (fun _ => kitAny_cons T.kk_NoShare_BadMoulds (fun _ => kitAny_cons T.kk_NoShare_BadRow (fun _ => kitAny_cons T.kk_NoShare_Cured (fun _ => kitAny_cons T.kk_NoShare_NoHour (fun _ => kitAny_cons T.kk_NoShare_NoMould (fun _ => kitAny_cons T.kk_NoShare_NoSteady (fun _ => rfl) (fun z => nomatch z)) (fun z => nomatch z)) (fun z => nomatch z)) (fun z => nomatch z)) (fun z => nomatch z)) (fun z => nomatch z)) (fun z => nomatch z)) (fun z => nomatch z)) (fun z => nomatch z), kitAny_cons T.kk_NoShare_NoTelling (fun _ => kitAny_cons T.kk_NoShare_NotCured (fun _ => kitAny_cons T.kk_NoShare_NotReady (fun _ => kitAny_cons T.kk_NoShare_TooStrong (fun _ => rfl) (fun z => nomatch z)) (fun z => nomatch z)) (fun z => nomatch z)) (fun z => nomatch z), T.kV_NoShare, rfl, rfl, fun i hi => (match i, hi with | 0, _ => rfl | 1, _ => rfl | i + 2, h => absurd h (by omega)), rfl, T.te_NoShare, T.E_NoShare⟩
  · exact ⟨_, _, _, _, _, _, _, 3, T.kk_Empty_NoKettle, T.kk_Empty_NoRoom, T.kk_Empty_NoShare, T.kk_Empty_Empty, T.kk_Empty_Same, T.kk_Empty_Stopped, T.kk_Empty_InWork, kitAny_cons T.kk_Empty_BadDeed (fun _ => kitAny_cons T.kk_Empty_BadFrac (fun _ => kitAny_cons T.kk_Empty_BadKettles (fun _ => kitAny_cons T.kk_Empty_BadMoulds (fun _ => kitAny_cons T.kk_Empty_BadRow (fun _ => kitAny_cons T.kk_Empty_Cured (fun _ => kitAny_cons T.kk_Empty_NoHour (fun _ => kitAny_cons T.kk_Empty_NoMould (fun _ => kitAny_cons T.kk_Empty_NoSteady (fun _ => rfl) (fun z => nomatch z)) (fun z => nomatch z)) (fun z => nomatch z)) (fun z => nomatch z)) (fun z => nomatch z)) (fun z => nomatch z)) (fun z => nomatch z)) (fun z => nomatch z)) (fun z => nomatch z), kitAny_cons T.kk_Empty_NoTelling (fun _ => kitAny_cons T.kk_Empty_NotCured (fun _ => kitAny_cons T.kk_Empty_NotReady (fun _ => kitAny_cons T.kk_Empty_TooStrong (fun _ => rfl) (fun z => nomatch z)) (fun z => nomatch z)) (fun z => nomatch z)) (fun z => nomatch z), T.kV_Empty, rfl, rfl, fun i hi => (match i, hi with | 0, _ => rfl | 1, _ => rfl | 2, _ => rfl | i + 3, h => absurd h (by omega)), rfl, T.te_Empty, T.E_Empty⟩
  · exact ⟨_, _, _, _, _, _, _, 4, T.kk_Same_NoKettle, T.kk_Same_NoRoom, T.kk_Same_NoShare, T.kk_Same_Empty, T.kk_Same_Same, T.kk_Same_Stopped, T.kk_Same_InWork, kitAny_cons T.kk_Same_BadDeed (fun _ => kitAny_cons T.kk_Same_BadFrac (fun _ => kitAny_cons T.kk_Same_BadKettles (fun _ => kitAny_cons T.kk_Same_BadMoulds (fun _ => kitAny_cons T.kk_Same_BadRow (fun _ => kitAny_cons T.kk_Same_Cured (fun _ => kitAny_cons T.kk_Same_NoHour (fun _ => kitAny_cons T.kk_Same_NoMould (fun _ => kitAny_cons T.kk_Same_NoSteady (fun _ => rfl) (fun z => nomatch z)) (fun z => nomatch z)) (fun z => nomatch z)) (fun z => nomatch z)) (fun z => nomatch z)) (fun z => nomatch z)) (fun z => nomatch z)) (fun z => nomatch z)) (fun z => nomatch z), kitAny_cons T.kk_Same_NoTelling (fun _ => kitAny_cons T.kk_Same_NotCured (fun _ => kitAny_cons T.kk_Same_NotReady (fun _ => kitAny_cons T.kk_Same_TooStrong (fun _ => rfl) (fun z => nomatch z)) (fun z => nomatch z)) (fun z => nomatch z)) (fun z => nomatch z), T.kV_Same, rfl, rfl, fun i hi => (match i, hi with | 0, _ => rfl | 1, _ => rfl | 2, _ => rfl | 3, _ => rfl | i + 4, h => absurd h (by omega)), rfl, T.te_Same, T.E_Same⟩
  · exact ⟨_, _, _, _, _, _, _, 5, T.kk_Stopped_NoKettle, T.kk_Stopped_NoRoom, T.kk_Stopped_NoShare, T.kk_Stopped_Empty, T.kk_Stopped_Same, T.kk_Stopped_Stopped, T.kk_Stopped_InWork, kitAny_cons T.kk_Stopped_BadDeed (fun _ => kitAny_cons T.kk_Stopped_BadFrac (fun _ => kitAny_cons T.kk_Stopped_BadKettles (fun _ => kitAny_cons T.kk_Stopped_BadMoulds (fun _ => kitAny_cons T.kk_Stopped_BadRow (fun _ => kitAny_cons T.kk_Stopped_Cured (fun _ => kitAny_cons T.kk_Stopped_NoHour (fun _ => kitAny_cons T.kk_Stopped_NoMould (fun _ => kitAny_cons T.kk_Stopped_NoSteady (fun _ => rfl) (fun z => nomatch z)) (fun z => nomatch z)) (fun z => nomatch z)) (fun z => nomatch z)) (fun z => nomatch z)) (fun z => nomatch z)) (fun z => nomatch z)) (fun z => nomatch z)) (fun z => nomatch z), kitAny_cons T.kk_Stopped_NoTelling (fun _ => kitAny_cons T.kk_Stopped_NotCured (fun _ => kitAny_cons T.kk_Stopped_NotReady (fun _ => kitAny_cons T.kk_Stopped_TooStrong (fun _ => rfl) (fun z => nomatch z)) (fun z => nomatch z)) (fun z => nomatch z)) (fun z => nomatch z), T.kV_Stopped, rfl, rfl, fun i hi => (match i, hi with | 0, _ => rfl | 1, _ => rfl | 2, _ => rfl | 3, _ => rfl | 4, _ => rfl | i + 5, h => absurd h (by omega)), rfl, T.te_Stopped, T.E_Stopped⟩
  · exact ⟨_, _, _, _, _, _, _, 6, T.kk_InWork_NoKettle, T.kk_InWork_NoRoom, T.kk_InWork_NoShare, T.kk_InWork_Empty, T.kk_InWork_Same, T.kk_InWork_Stopped, T.kk_InWork_InWork, kitAny_cons T.kk_InWork_BadDeed (fun _ => kitAny_cons T.kk_InWork_BadFrac (fun _ => kitAny_cons T.kk_InWork_BadKettles (fun _ => kitAny_cons T.kk_InWork_BadMoulds (fun _ => kitAny_cons T.kk_InWork_BadRow (fun _ => kitAny_cons T.kk_InWork_Cured (fun _ => kitAny_cons T.kk_InWork_NoHour (fun _ => kitAny_cons T.kk_InWork_NoMould (fun _ => kitAny_cons T.kk_InWork_NoSteady (fun _ => rfl) (fun z => nomatch z)) (fun z => nomatch z)) (fun z => nomatch z)) (fun z => nomatch z)) (fun z => nomatch z)) (fun z => nomatch z)) (fun z => nomatch z)) (fun z => nomatch z)) (fun z => nomatch z), kitAny_cons T.kk_InWork_NoTelling (fun _ => kitAny_cons T.kk_InWork_NotCured (fun _ => kitAny_cons T.kk_InWork_NotReady (fun _ => kitAny_cons T.kk_InWork_TooStrong (fun _ => rfl) (fun z => nomatch z)) (fun z => nomatch z)) (fun z => nomatch z)) (fun z => nomatch z), T.kV_InWork, rfl, rfl, fun i hi => (match i, hi with | 0, _ => rfl | 1, _ => rfl | 2, _ => rfl | 3, _ => rfl | 4, _ => rfl | 5, _ => rfl | i + 6, h => absurd h (by omega)), rfl, T.te_InWork, T.E_InWork⟩
def sp_ktold (T : All K mg) : Sp := fun vs H Q E => ∃ (A : KAd) (nms : List Str) (S : KS) (j : Nat) (d : Addr) (D : KD), vs = [.ref A.p, .ref d] ∧ KettlesAt K T.C_Kettles T.C_Kettle H A nms S ∧ nms.Nodup ∧ KInv nms j S ∧ j ≤ 400 ∧ KDAt K H d D ∧ KDOk nms S D ∧ KLay nms ∧
  ∀ v H', KettlesAt K T.C_Kettles T.C_Kettle H' A nms (kstep nms D S).1 → Dtu K H' 8 v (kstep nms D S).2 → Off K (A.R nms) H H' → Q v H'
theorem ok_l_told (T : All K mg) : FnOk P w K mg base CX0 9 T.f_l_told T.fd_l_told ["_law_kettles", "_law_deed_here"] (sp_ktold T) := by
  refine T.d_l_told.fn.ok sc_l_told (fun vs H Q E h => ?_) (fun cdv A outer s H vs Q E hr h => ?_)
  · obtain ⟨A, nms, S, j, d, D, rfl, _⟩ := h
    rfl
  obtain ⟨Ad, nms, S, j, d, D, rfl, hk, nd, inv, j9, hd, ok, lay, q⟩ := h
  refine ⟨_, (pss_cons (ps_asg (pe_tupI (pa_cons pe_non (pa_cons pe_non pa_nil))) (pg_tupK (K := K) rfl rfl (pgs_cons (pg_name (i := 2) sc_l_told.nd rfl (by first | exact Or.inl rfl | exact Or.inr rfl)) (pgs_cons (pg_name (i := 3) sc_l_told.nd rfl (by first | exact Or.inl rfl | exact Or.inr rfl)) pgs_nil))))
      (pss_cons (ps_try_keep (i := 4) (tb := _) (ts := fun a cls d => tAsg (tVar 4) (gName 2)) (Wo := fun _ _ _ _ => False) rfl rfl sc_l_told.nd rfl rfl ⟨rfl, by decide, Or.inl T.g_BoilError⟩ takes0 (fun W pn xe tk _ => (pss_one (ps_set (i := 3) sc_l_told.nd rfl (by first | exact Or.inl rfl | exact Or.inr rfl) (pe_callS (ok_l_ask T) hr (by rfl) T.d_l_ask.mg T.d_l_ask.fn.kp T.d_l_ask.b (fun σ => passAt tk σ) (pa_cons (pv 0) (pa_cons (pv 1) pa_nil)))))) (fun a ob cls d pn z f => pss_one (ps_set (i := 2) sc_l_told.nd rfl (Or.inl rfl) (pv 4))))
      (pss_cons (ps_if (pt_cmpR op_isN (pv 2) pe_non (nomark _)) (pss_one (ps_ret (pe_tupI (pa_cons pe_str (pa_cons (pv 3) pa_nil))))) pss_nil)
      (pss_cons (ps_set (i := 5) sc_l_told.nd rfl (by first | exact Or.inl rfl | exact Or.inr rfl) (pe_lstI (pa_cons (pe_callB (isX (K := K) rfl) (by rfl) T.b_isinstance (by decide +kernel) (pa_cons (pv 2) (pa_cons (pe_glob (v := .ref T.C_NoKettle) rfl T.g_NoKettle rfl) pa_nil))) (pa_cons (pe_callB (isX (K := K) rfl) (by rfl) T.b_isinstance (by decide +kernel) (pa_cons (pv 2) (pa_cons (pe_glob (v := .ref T.C_NoRoom) rfl T.g_NoRoom rfl) pa_nil))) (pa_cons (pe_callB (isX (K := K) rfl) (by rfl) T.b_isinstance (by decide +kernel) (pa_cons (pv 2) (pa_cons (pe_glob (v := .ref T.C_NoShare) rfl T.g_NoShare rfl) pa_nil))) pa_nil)))))
      (pss_cons (ps_set (i := 5) sc_l_told.nd rfl (by first | exact Or.inl rfl | exact Or.inr rfl) (pe_op op_catI (pv 5) (pe_lstI (pa_cons (pe_callB (isX (K := K) rfl) (by rfl) T.b_isinstance (by decide +kernel) (pa_cons (pv 2) (pa_cons (pe_glob (v := .ref T.C_Empty) rfl T.g_Empty rfl) pa_nil))) (pa_cons (pe_callB (isX (K := K) rfl) (by rfl) T.b_isinstance (by decide +kernel) (pa_cons (pv 2) (pa_cons (pe_glob (v := .ref T.C_Same) rfl T.g_Same rfl) pa_nil))) (pa_cons (pe_callB (isX (K := K) rfl) (by rfl) T.b_isinstance (by decide +kernel) (pa_cons (pv 2) (pa_cons (pe_glob (v := .ref T.C_Stopped) rfl T.g_Stopped rfl) pa_nil))) pa_nil))))))
      (pss_cons (ps_expr (pe_bm PySem.F.plainAttrs_list PySem.F.slot_list_append PySem.F.type_list_append mt_append (pv 5) (pa_cons (pe_callB (isX (K := K) rfl) (by rfl) T.b_isinstance (by decide +kernel) (pa_cons (pv 2) (pa_cons (pe_glob (v := .ref T.C_InWork) rfl T.g_InWork rfl) pa_nil))) pa_nil)))
      (pss_cons (ps_set (i := 6) sc_l_told.nd rfl (by first | exact Or.inl rfl | exact Or.inr rfl) (pe_callB (isXT (K := K) rfl) (by rfl) T.b_isinstance (by decide +kernel) (pa_cons (pv 2) (pa_cons (pe_tupI (pa_cons (pe_glob (v := .ref T.C_BadDeed) rfl T.g_BadDeed rfl) (pa_cons (pe_glob (v := .ref T.C_BadFrac) rfl T.g_BadFrac rfl) (pa_cons (pe_glob (v := .ref T.C_BadKettles) rfl T.g_BadKettles rfl) (pa_cons (pe_glob (v := .ref T.C_BadMoulds) rfl T.g_BadMoulds rfl) (pa_cons (pe_glob (v := .ref T.C_BadRow) rfl T.g_BadRow rfl) (pa_cons (pe_glob (v := .ref T.C_Cured) rfl T.g_Cured rfl) (pa_cons (pe_glob (v := .ref T.C_NoHour) rfl T.g_NoHour rfl) (pa_cons (pe_glob (v := .ref T.C_NoMould) rfl T.g_NoMould rfl) (pa_cons (pe_glob (v := .ref T.C_NoSteady) rfl T.g_NoSteady rfl) pa_nil)))))))))) pa_nil))))
      (pss_cons (ps_set (i := 6) sc_l_told.nd rfl (by first | exact Or.inl rfl | exact Or.inr rfl) (pe_or (pv 6) (pe_one (pe_callB (isXT (K := K) rfl) (by rfl) T.b_isinstance (by decide +kernel) (pa_cons (pv 2) (pa_cons (pe_tupI (pa_cons (pe_glob (v := .ref T.C_NoTelling) rfl T.g_NoTelling rfl) (pa_cons (pe_glob (v := .ref T.C_NotCured) rfl T.g_NotCured rfl) (pa_cons (pe_glob (v := .ref T.C_NotReady) rfl T.g_NotReady rfl) (pa_cons (pe_glob (v := .ref T.C_TooStrong) rfl T.g_TooStrong rfl) pa_nil))))) pa_nil))))))
      (pss_cons (ps_if (PW.pt (pw_or (pt_val (pv 6)) (pw_or (pt_cmpR op_ne (pe_bm PySem.F.plainAttrs_list PySem.F.slot_list_count PySem.F.type_list_count (mt_cntB (K := K) rfl) (pv 5) (pa_cons pe_bl pa_nil)) pe_int (nomark _)) (pw_or1 (pt_not (pt_val (pe_callB (isX (K := K) rfl) (by rfl) T.b_isinstance (by decide +kernel) (pa_cons (pv 2) (pa_cons (pe_bltn (v := .ty "ValueError") (by rfl) T.b_ValueError (by decide +kernel) rfl) pa_nil))))))))) (pss_one (ps_ret (pe_tupI (pa_cons pe_str (pa_cons pe_str (pa_cons pe_non pa_nil)))))) pss_nil)
      (pss_cons (ps_set (i := 7) sc_l_told.nd rfl (by first | exact Or.inl rfl | exact Or.inr rfl) (pe_lstI (pa_cons pe_str (pa_cons pe_str (pa_cons pe_str (pa_cons pe_str (pa_cons pe_str (pa_cons pe_str (pa_cons pe_str pa_nil)))))))))
      (pss_one (ps_ret (pe_tupI (pa_cons pe_str (pa_cons (pe_ix (ixL (K := K) rfl) (pv 7) (pe_bm PySem.F.plainAttrs_list PySem.F.slot_list_index PySem.F.type_list_index mt_index (pv 5) (pa_cons pe_bl pa_nil)) (fun _ _ => rfl)) (pa_cons (pe_what rfl (pv 2)) pa_nil)))))))))))))))), ?_⟩
  refine ⟨rfl, fun c0 H0 s0 n0 h0 => ?_⟩
  refine ⟨c0, _, rfl, SqT.of h0, rfl, _, _, rfl, _, _, rfl, rfl, ?_⟩
  refine ⟨_, rfl, _, rfl, Ad, nms, S, j, d, D, rfl, hk.same s0, nd, inv, j9, hd.tk (.same s0), ok, lay, fun v dd H1 e1 k1 d1 o1 => ?_, fun w dd v C nm H1 e1 sv lw s1 dv d2 G sm hw => ?_⟩
  · refine ⟨_, rfl, rfl, _, rfl, iteT ?_⟩
    refine ⟨_, rfl, rfl, fun a H2 s2 n2 h2 => q _ H2 (k1.same s2) ?_ (((Off.same s0).seq o1).seq (.same s2))⟩
    rw [e1]
    exact told_dtu (n := 6) (SqT.of h2) ((d1.tk (.same s2)).up (by decide))
  · obtain ⟨b1, b2, b3, b4, b5, b6, b7, jx, k1, k2, k3, k4, k5, k6, k7, ka1, ka2, kv, cnt, at_, bef, wat_, te, xf⟩ := seven_of T sv
    refine ⟨true, te, fun _ a ha => ⟨_, rfl, ?_⟩, fun z => nomatch z⟩
    have sa : Same G (upd G a (ExK (.ref C) (some d2) a)) := same_new ha
    have kp : Kept K (upd G a (ExK (.ref C) (some d2) a)) a C d2 v := ⟨xf, upd_same, ⟨_, sa _ _ hw⟩⟩
    refine ⟨_, rfl, rfl, _, rfl, iteF ?_⟩
    refine ⟨_, rfl, a, C, d2, _, .ref T.C_NoKettle, _, b1, rfl, kp, .own _, k1, _, rfl, a, C, d2, _, .ref T.C_NoRoom, _, b2, rfl, kp, .own _, k2, _, rfl, a, C, d2, _, .ref T.C_NoShare, _, b3, rfl, kp, .own _, k3, rfl, fun L1 H2 s2 n2 h2 => ?_⟩
    have kp2 := kp.same s2
    refine ⟨_, rfl, _, rfl, a, C, d2, _, .ref T.C_Empty, _, b4, rfl, kp2, .own _, k4, _, rfl, a, C, d2, _, .ref T.C_Same, _, b5, rfl, kp2, .own _, k5, _, rfl, a, C, d2, _, .ref T.C_Stopped, _, b6, rfl, kp2, .own _, k6, rfl, fun L2 H3 s3 n3 h3 => ?_⟩
    have kp3 := kp2.same s3
    refine ⟨L1, L2, _, _, rfl, rfl, s3 _ _ h2, h3, (by show 6 ≤ sizeLine; exact small (by decide)), fun L3 H4 s4 n4 h4 => ?_⟩
    have kp4 := kp3.same s4
    have aL : a ≠ L3 := fun e => by
      have z := kp3.ob
      rw [e, n4] at z
      cases z
    have dL : d2 ≠ L3 := fun e => by
      obtain ⟨z0, z⟩ := kp3.di
      rw [e, n4] at z
      cases z
    refine ⟨_, rfl, .inl ⟨rfl, _, SqL.of h4⟩, _, rfl, a, C, d2, _, .ref T.C_InWork, _, b7, rfl, kp4, .own _, k7, L3, _, _, rfl, rfl, h4, (by show 6 < sizeLine; exact small (by decide)), ?_⟩
    generalize hX : upd H4 L3 _ = H5
    have h5 : H5 L3 = some (.lst ([b1, b2, b3, b4, b5, b6, b7].map V.bl)) := by
      rw [← hX]
      exact upd_same
    have kp5 : Kept K H5 a C d2 v := by
      rw [← hX]
      exact ⟨xf, (upd_ne aL).trans kp4.ob, kp4.di.imp fun _ e => (upd_ne dL).trans e⟩
    refine ⟨_, rfl, rfl, fun tp H6 s6 n6 h6 => ?_⟩
    have kp6 := kp5.same s6
    refine ⟨a, C, d2, tp, _, _, _, false, rfl, kp6, h6, .cons (.own _) (.cons (.own _) (.cons (.own _) (.cons (.own _) (.cons (.own _) (.cons (.own _) (.cons (.own _) (.cons (.own _) (.cons (.own _) .nil)))))))), ka1, ?_⟩
    refine ⟨_, rfl, false, rfl, iteF ⟨_, rfl, rfl, fun tq H7 s7 n7 h7 => ?_⟩⟩
    have kp7 := kp6.same s7
    refine ⟨a, C, d2, tq, _, _, _, false, rfl, kp7, h7, .cons (.own _) (.cons (.own _) (.cons (.own _) (.cons (.own _) .nil))), ka2, ?_⟩
    have h57 := (s6.trans s7) _ _ h5
    refine ⟨_, rfl, false, rfl, iteF ⟨_, rfl, .inl ⟨rfl, _, SqL.of h57⟩, L3, _, true, rfl, rfl, SqL.of h57, ?_⟩⟩
    rw [cnt]
    refine ⟨rfl, _, rfl, ite_nF rfl ?_⟩
    refine ⟨_, rfl, a, C, d2, _, .ty "ValueError", _, true, rfl, kp7, .ty _, kv, _, rfl, iteF ?_⟩
    refine ⟨rfl, fun wl H8 s8 n8 h8 => ?_⟩
    have h58 := s8 _ _ h57
    have kp8 := kp7.same s8
    have hlt : jx < 7 := (List.getElem?_eq_some_iff.mp wat_).1
    have ne : ∀ (m : Nat) (z' : V), m < jx → ([b1, b2, b3, b4, b5, b6, b7].map V.bl)[m]? = some z' → eqV z' (.bl true) = false := fun m z' lt e => by
      rw [bef m lt] at e
      rw [← Option.some.inj e]
      rfl
    refine ⟨_, rfl, _, rfl, .inl ⟨rfl, _, SqL.of h58⟩, L3, _, .bl true, jx, .bl true, rfl, rfl, SqL.of h58, rfl, rfl, at_, rfl, ne, ?_⟩
    refine ⟨wl, _, _, _, rfl, rfl, SqL.of h8, atI_nat wat_, _, rfl, a, C, d2, _, rfl, kp8, rfl, fun t H9 s9 n9 h9 => ?_⟩
    have s35 : Same H3 H5 := fun x o e => by
      have z := s4 _ _ e
      rw [← hX, upd_ne (fun w => by rw [w, n4] at e; cases e)]
      exact z
    have s15 : Same H1 H9 := sm.trans (sa.trans (s2.trans (s3.trans (s35.trans (s6.trans (s7.trans (s8.trans s9)))))))
    have s09 : Same H H9 := s0.trans (s1.trans s15)
    refine q _ H9 ?_ ?_ (.same s09)
    · rw [e1]
      exact hk.same s09
    · rw [e1]
      exact (refu_dtu (SqT.of h9) lw (dv.tk (.same s15))).up (by decide)

end
end KR
namespace KR
open PySem PySem.Spec PyProof.Rows L2
section
variable {P : Program} {w : World} {K : PySem.W.Frag} {mg : Str → Option Value} {base : Heap}
def sp_kready (K : PySem.W.Frag) : Sp := fun vs H Q _ => ∃ (B : LKA) (nms : List Str) (S : KS) (x : Str), vs = [.ref B.a, .ref (B.c x)] ∧ (∃ gv, H B.a = some (.dK (skv S.hour gv B.r))) ∧ LRow K H (B.c x) (S.st x) ∧ MOk (S.st x).mark ∧ 0 ≤ (S.st x).fire ∧ 0 ≤ (S.st x).s ∧ RBig (S.st x) ∧ S.hour < 2 ^ 60 ∧ (∀ q, (S.st x).fire ≠ 0 → q = ((S.st x).w - wat (S.st x).s (S.st x).mark) / ((S.st x).fire : Rat) → Big q) ∧ ∀ v H', Same H H' → OQ K H' v (S.when x) → Q v H'
theorem ok_l_ready (T : All K mg) : FnOk P w K mg base CX0 4 T.f_l_ready T.fd_l_ready ["_law_state", "_law_row_here"] (sp_kready K) := by
  refine T.d_l_ready.fn.ok sc_l_ready (fun vs H Q E h => ?_) (fun cdv A outer s H vs Q E hr h => ?_)
  · obtain ⟨B, nms, S, x, rfl, _⟩ := h
    rfl
  · obtain ⟨Bd, nms, S, x, rfl, ⟨gv, hd⟩, hrow, mo, f0, s0, rb, h60, qb, q⟩ := h
    refine ⟨_, (pss_cons (ps_set (i := 2) sc_l_ready.nd rfl (by first | exact Or.inl rfl | exact Or.inr rfl) (pe_call (ok_l_minus T) hr (by rfl) T.d_l_minus.mg T.d_l_minus.fn.kp T.d_l_minus.b .nil pass0 (pa_cons (pe_ix (ixL (K := K) rfl) (pv 1) pe_int (fun _ _ => rfl)) (pa_cons (pe_call (ok_l_least T) hr (by rfl) T.d_l_least.mg T.d_l_least.fn.kp T.d_l_least.b .nil pass0 (pa_cons (pv 1) pa_nil)) pa_nil))))
      (pss_cons (ps_if (pt_cmpR op_eq (pe_ix (ixT (K := K) rfl) (pe_ix (ixL (K := K) rfl) (pv 1) pe_int (fun _ _ => rfl)) pe_int (fun _ _ => rfl)) pe_int (nomark _)) (pss_one (ps_ret pe_non)) pss_nil)
      (pss_cons (ps_if (pt_cmpR op_le (pe_ix (ixT (K := K) rfl) (pv 2) pe_int (fun _ _ => rfl)) pe_int (nomark _)) (pss_one (ps_ret (pe_tupI (pa_cons (pe_dget (hu_of hr) (pv 0) pe_str (fun _ _ => rfl)) (pa_cons pe_int pa_nil))))) pss_nil)
      (pss_one (ps_ret (pe_ifExp (PW.pt (pw_and (pt_val (pe_ix (ixL (K := K) rfl) (pv 1) pe_int (fun _ _ => rfl))) (pw_and1 (pt_cmpR op_gt (pe_ix (ixL (K := K) rfl) (pv 1) pe_int (fun _ _ => rfl)) pe_int (nomark _))))) (pe_call (ok_l_plus T) (hr.mono (by decide)) (by rfl) T.d_l_plus.mg T.d_l_plus.fn.kp T.d_l_plus.b .nil pass0 (pa_cons (pe_tupI (pa_cons (pe_dget (hu_of hr) (pv 0) pe_str (fun _ _ => rfl)) (pa_cons pe_int pa_nil))) (pa_cons (pe_call (ok_l_low T) (hr.mono (by decide)) (by rfl) T.d_l_low.mg T.d_l_low.fn.kp T.d_l_low.b .nil pass0 (pa_cons (pe_ix (ixT (K := K) rfl) (pv 2) pe_int (fun _ _ => rfl)) (pa_cons (pe_op op_mulX (pe_ix (ixT (K := K) rfl) (pv 2) pe_int (fun _ _ => rfl)) (pe_ix (ixL (K := K) rfl) (pv 1) pe_int (fun _ _ => rfl))) pa_nil))) pa_nil))) pe_non)))))), ?_⟩
    obtain ⟨mv, sv, wv, h1, hm, ⟨sa, rfl, hs⟩, ⟨wa, rfl, hw⟩⟩ := id hrow
    have ew : S.when x = (rdy (S.st x)).map fun q => ((S.hour : Int) : Rat) + q := rfl
    have er : rdy (S.st x) = ready (S.st x).s (S.st x).w (if (S.st x).on = true then (S.st x).fire else 0) (S.st x).mark := rfl
    refine ⟨_, rfl, Bd.c x, _, 4, _, rfl, rfl, SqL.of h1, at4, ?_⟩
    refine ⟨_, rfl, Bd.c x, S.st x, rfl, hrow, mo, rb.s, fun l H1 s1 hl => ?_⟩
    refine ⟨wa, l, _, _, rfl, hw.same s1, hl, rb.w, rb.l, trivial, fun o H2 s2 n2 ho => ?_⟩
    have s12 := s1.trans s2
    have ho : FrQ K H2 o ((S.st x).w - wat (S.st x).s (S.st x).mark) := ho
    have ho' : SqT K H2 o [.int ((S.st x).w - wat (S.st x).s (S.st x).mark).num, .int (((S.st x).w - wat (S.st x).s (S.st x).mark).den : Int)] := ho
    have hs2 : SqT K H2 sa [.int (S.st x).s.num, .int ((S.st x).s.den : Int)] := hs.same s12
    have h2 := s12 _ _ h1
    have hd2 := s12 _ _ hd
    refine ⟨_, rfl, Bd.c x, _, 3, _, rfl, rfl, SqL.of h2, at3, sa, _, 0, _, rfl, rfl, hs2, at0, rfl, _, rfl, ?_⟩
    by_cases c1 : V.int (S.st x).s.num = V.int 0
    · rw [decide_eq_true c1]
      have e0 : (S.st x).s = 0 := Rat.num_eq_zero.mp (V.int.inj c1)
      refine q .non H2 s12 ?_
      rw [ew, er]
      unfold ready
      rw [if_pos e0] <;> rfl
    rw [decide_eq_false c1]
    have s0' : (S.st x).s ≠ 0 := fun e => c1 (by rw [e] <;> rfl)
    refine ⟨_, rfl, o, _, 0, _, rfl, rfl, ho', at0, _, _, rfl, rfl, _, rfl, ?_⟩
    have over : ((S.st x).w - wat (S.st x).s (S.st x).mark).num ≤ 0 ↔ ¬ wat (S.st x).s (S.st x).mark < (S.st x).w := by
      constructor
      · intro z c
        have : 0 < ((S.st x).w - wat (S.st x).s (S.st x).mark).num := num_pos.mpr (by grind)
        omega
      · intro c
        by_cases z : 0 < ((S.st x).w - wat (S.st x).s (S.st x).mark).num
        · have := num_pos.mp z
          exact absurd (by grind) c
        · omega
    have hB : Sz 60 ((S.hour : Int) : Rat) := Sz.int (z := (S.hour : Int)) (n := 60) (by omega) (by decide)
    by_cases c2 : ((S.st x).w - wat (S.st x).s (S.st x).mark).num ≤ 0
    · rw [decide_eq_true c2]
      have cw := over.mp c2
      refine ⟨_, rfl, Bd.a, _, rfl, .inl ⟨_, kN "hour", .inl hd2, rfl, rfl⟩, rfl, fun t H3 s3 n3 h3 => ?_⟩
      refine q (.ref t) H3 (s12.trans s3) ?_
      rw [ew, er]
      unfold ready
      rw [if_neg s0', if_neg cw]
      show OQ K H3 (.ref t) (some (((S.hour : Int) : Rat) + 0))
      rw [Rat.add_zero]
      exact ⟨t, rfl, FrQ.int h3⟩
    rw [decide_eq_false c2]
    have cw : wat (S.st x).s (S.st x).mark < (S.st x).w := Classical.byContradiction fun z => c2 (over.mpr z)
    refine ⟨_, rfl, Bd.c x, _, 5, _, rfl, rfl, SqL.of h2, at5, _, rfl, ?_⟩
    cases hon : (S.st x).on with
    | false =>
      refine q .non H2 s12 ?_
      rw [ew, er]
      unfold ready
      rw [if_neg s0', if_pos cw, hon] <;> rfl
    | true =>
      refine ⟨_, rfl, Bd.c x, _, 1, _, rfl, rfl, SqL.of h2, at1, _, _, rfl, rfl, _, rfl, ?_⟩
      by_cases c3 : 0 < (S.st x).fire
      case neg =>
        rw [decide_eq_false c3]
        have e0 : (S.st x).fire = 0 := by omega
        refine q .non H2 s12 ?_
        rw [ew, er]
        unfold ready
        rw [if_neg s0', if_pos cw, hon, if_pos (show (if true = true then (S.st x).fire else 0) = 0 from e0)] <;> rfl
      rw [decide_eq_true c3]
      have fn : (S.st x).fire ≠ 0 := by omega
      refine ⟨_, rfl, Bd.a, _, rfl, .inl ⟨_, kN "hour", .inl hd2, rfl, rfl⟩, rfl, fun t H3 s3 n3 h3 => ?_⟩
      have ho3 := Same.tup s3 ho'
      have h23 := s3 _ _ h2
      obtain ⟨r1, r2⟩ := rb.d
      refine ⟨_, rfl, o, _, 0, _, rfl, rfl, ho3, at0, _, rfl, o, _, 1, _, rfl, rfl, ho3, at1, _, rfl, Bd.c x, _, 1, _, rfl, rfl, SqL.of h23, at1, _, _, rfl, rfl, mulZ r2 rb.f (by omega), ?_⟩
      refine ⟨_, _, rfl, Int.mul_ne_zero (den_ne' _) fn, lt_up r1 (by omega), lt_up (wide_lt r2 rb.f) (by omega), fun z H4 s4 n4 h4 => ?_⟩
      have h4 : FrQ K H4 z (rq ((S.st x).w - wat (S.st x).s (S.st x).mark).num ((((S.st x).w - wat (S.st x).s (S.st x).mark).den : Int) * (S.st x).fire)) := h4
      rw [rq_divi] at h4
      refine ⟨t, z, ((S.hour : Int) : Rat), _, rfl, (FrQ.int h3 : FrQ K H3 t ((S.hour : Int) : Rat)).same s4, h4, hB.up (by decide), qb _ fn rfl, trivial, fun y H5 s5 n5 h5 => ?_⟩
      refine q (.ref y) H5 (s12.trans (s3.trans (s4.trans s5))) ?_
      rw [ew, er]
      unfold ready
      rw [if_neg s0', if_pos cw, hon, if_neg (show ¬ (if true = true then (S.st x).fire else 0) = 0 from fn)]
      exact ⟨y, rfl, h5⟩

end
end KR
namespace KR
open PySem PySem.Spec PyProof.Rows L2
section
variable {P : Program} {w : World} {K : PySem.W.Frag} {mg : Str → Option Value} {base : Heap}
theorem for_items {d : Addr} {od : Obj} {kvs : List (Key × V)} {g : TG} {tb : TS} {D : Ends} {σ : L2.St} {H : Hp} (Pv : Nat → L2.St → Hp → Prop) (h0 : Pv 0 σ H) (hl : ∀ i σ H, i ≤ kvs.length → Pv i σ H → H d = some (.frz od (.dK kvs)))
    (hs : ∀ i k v σ H T, kvs[i]? = some (k, v) → Pv i σ H → H T = none → g (.ref T) σ (upd H T (.tup [kV k, v])) fun σ2 H2 => tb { D with nx := Pv (i + 1), ct := Pv (i + 1), bk := D.nx } σ2 H2) (hd : ∀ σ H, Pv kvs.length σ H → D.nx σ H) :
    ∃ W : Nat → Nat → L2.St → Hp → Prop, (∃ m, W 0 m σ H) ∧ ∀ i m σ H, W i m σ H →
      ((Iti d od kvs).stop i H ∧ D.nx σ H) ∨ ((Iti d od kvs).go i H ∧ ∃ N : L2.St → Hp → Prop, (∀ σ' H', N σ' H' → ∃ m', m' < m ∧ W (i + 1) m' σ' H') ∧ ∀ x H', (Iti d od kvs).yld i H x H' → g x σ H' fun σ2 H2 => tb { D with nx := N, ct := N, bk := D.nx } σ2 H2) := by
  refine ⟨fun i m σ H => m = kvs.length - i ∧ i ≤ kvs.length ∧ Pv i σ H, ⟨kvs.length, by simp, Nat.zero_le _, h0⟩, ?_⟩
  rintro i m σ H ⟨rfl, hi, p⟩
  have q := hl i σ H hi p
  by_cases hlt : i < kvs.length
  · refine .inr ⟨⟨q, hlt⟩, Pv (i + 1), fun σ' H' p' => ⟨kvs.length - (i + 1), by omega, rfl, hlt, p'⟩, fun x H' y => ?_⟩
    obtain ⟨T, k, v, e, rfl, n, rfl⟩ := y
    exact hs i k v σ _ T e p n
  · have e : i = kvs.length := by omega
    subst e
    exact .inl ⟨⟨q, Nat.le_refl _⟩, hd σ H p⟩
theorem dkT_list {K : PySem.W.Frag} {H : Hp} {a : Addr} {us : List V} {ds : List PyData} {n m : Nat} (h : H a = some (.lst us)) (al : DtuAll K H n us ds) (le : n ≤ m) (z : us.length ≤ 100000) : Dk K H (m + 1) (.ref a) (.list ds) := .lst h al.1 z fun i x d a b => ((al.2 i x d a b).up le).dk
theorem dkT_two {K : PySem.W.Frag} {H : Hp} {a : Addr} {a1 a2 : V} {d1 d2 : PyData} {n : Nat} (h : H a = some (.lst [a1, a2])) (h1 : Dk K H n a1 d1) (h2 : Dk K H n a2 d2) : Dk K H (n + 1) (.ref a) (.list [d1, d2]) :=
  .lst h rfl (by show 2 ≤ 100000; decide) fun i u v hu hv => match i, hu, hv with
    | 0, hu, hv => by cases hu; cases hv; exact h1
    | 1, hu, hv => by cases hu; cases hv; exact h2
    | i + 2, hu, _ => by simp at hu
theorem dtuT_strs {K : PySem.W.Frag} {H : Hp} : ∀ {l : List Str}, (∀ x ∈ l, PyData.canLay0 (.str x) = true) → DtuAll K H 1 (l.map V.str) (l.map PyData.str)
  | [], _ => .nil
  | x :: r, h => .cons (.str 0 x (h x List.mem_cons_self)) (dtuT_strs fun y hy => h y (List.mem_cons_of_mem _ hy))
def dOp : Option Rat → PyData
  | none => .none
  | some q => dq q
theorem OQ.dtu {K : PySem.W.Frag} {H : Hp} {v : V} {o : Option Rat} (h : OQ K H v o) : Dtu K H 3 v (dOp o) := by
  cases o with
  | none =>
    obtain rfl : v = .non := h
    exact .non 2
  | some q =>
    obtain ⟨x, rfl, hx⟩ := h
    exact hx.dtu 1
theorem just_is {k : Ke} (u0 : 0 < k.mark) (u1 : k.mark < 1) (s0 : 0 ≤ k.s) (w0 : 0 ≤ k.w) : just k = (decide (0 < k.s) && decide (k.w = wat k.s k.mark)) := by
  have iff : stren k.s k.w = some k.mark ↔ 0 < k.s ∧ k.w = wat k.s k.mark := by
    unfold stren wat
    by_cases c : k.s + k.w = 0
    · rw [if_pos c]
      refine ⟨(fun z => nomatch z), fun ⟨a, b⟩ => ?_⟩
      exact absurd c (by grind)
    · rw [if_neg c, Option.some.injEq]
      refine ⟨fun z => ?_, fun ⟨a, b⟩ => ?_⟩
      · have e : k.s = k.mark * (k.s + k.w) := by
          rw [← z, Rat.div_mul_cancel c]
        have s1 : k.s ≠ 0 := fun e0 => by
          rw [e0, Rat.zero_add] at e
          rcases Rat.mul_eq_zero.mp e.symm with x | x
          · grind
          · rw [e0, x] at c
            exact c (by grind)
        refine ⟨by grind, ?_⟩
        have m0 : k.mark ≠ 0 := by grind
        have d : k.s / k.mark = k.s + k.w := by
          rw [Rat.div_def]
          have z2 := Rat.mul_inv_cancel k.mark m0
          grind
        rw [d]
        grind
      · have m0 : k.mark ≠ 0 := by grind
        have e : k.s + k.w = k.s / k.mark := by rw [b]; grind
        rw [e, Rat.div_def, Rat.div_def]
        have z2 := Rat.mul_inv_cancel k.mark m0
        have z3 := Rat.mul_inv_cancel k.s (by grind)
        rw [Rat.inv_mul_rev, Rat.inv_inv]
        grind
  unfold just
  by_cases h : 0 < k.s ∧ k.w = wat k.s k.mark
  · rw [decide_eq_true (iff.mpr h), decide_eq_true h.1, decide_eq_true h.2] <;> rfl
  · rw [decide_eq_false (fun z => h (iff.mp z))]
    by_cases a : 0 < k.s
    · rw [decide_eq_true a, decide_eq_false (fun z => h ⟨a, z⟩)] <;> rfl
    · rw [decide_eq_false a] <;> rfl
theorem KettlesAt.neD {K : PySem.W.Frag} {CO CK : Addr} {H : Hp} {A : KAd} {nms : List Str} {S : KS} (h : KettlesAt K CO CK H A nms S) {a : Addr} (r : A.R nms a) {kvs : List (Key × V)} : H a ≠ some (.dK kvs) := fun z => by
  rcases r with rfl | ⟨x, hx, rfl⟩
  · obtain ⟨dx, rv, bv, h1, h2⟩ := h.p
    rw [h1] at z
    cases z
  · obtain ⟨dx, mv, jv, h1, _⟩ := h.cell x hx
    rw [h1] at z
    cases z
def sp_kstands (T : All K mg) : Sp := fun vs H Q _ => ∃ (A : KAd) (B : LKA) (nms : List Str) (S : KS) (j : Nat), vs = [.ref A.p, .ref B.a] ∧ KettlesAt K T.C_Kettles T.C_Kettle H A nms S ∧ LKAt K H B nms S ∧ KInv nms j S ∧ j ≤ 400 ∧ KLay nms ∧ A.t ≠ B.r ∧ ∀ H', Same H H' → Q (.bl true) H'
theorem ok_l_stands (T : All K mg) : FnOk P w K mg base CX0 9 T.f_l_stands T.fd_l_stands ["_law_kettles", "_law_state"] (sp_kstands T) := by
  refine T.d_l_stands.fn.ok sc_l_stands (fun vs H Q E h => ?_) (fun cdv A outer s H vs Q E hr h => ?_)
  · obtain ⟨A, B, nms, S, j, rfl, _⟩ := h
    rfl
  obtain ⟨Ad, Bd, nms, S, j, rfl, hk, hl, inv, j9, lay, ntr, q⟩ := h
  refine ⟨_, (pss_cons (ps_if (pt_not (pt_val (pe_call (ok_l_same T) hr (by rfl) T.d_l_same.mg T.d_l_same.fn.kp T.d_l_same.b .nil pass0 (pa_cons (pe_lstI (pa_cons (pe_meth0 (pv 0) T.L_Kettles T.m_Kettles_hour (ok_Kettles_hour T) (hr.mono (by decide)) T.b_Kettles_hour .nil pass0) (pa_cons (pe_meth0 (pv 0) T.L_Kettles T.m_Kettles_kettle_names (ok_Kettles_kettle_names T) (hr.mono (by decide)) T.b_Kettles_kettle_names .nil pass0) pa_nil))) (pa_cons (pe_lstI (pa_cons (pe_dget (hu_of hr) (pv 1) pe_str (fun _ _ => rfl)) (pa_cons (pe_callTy (call_listD rfl) (by rfl) T.b_list (by decide +kernel) (pa_cons (pe_dget (hu_of hr) (pv 1) pe_str (fun _ _ => rfl)) pa_nil)) pa_nil))) pa_nil))))) (pss_one (ps_ret pe_bl)) pss_nil)
      (pss_cons (ps_if (pt_not (pt_val (pe_call (ok_l_same T) hr (by rfl) T.d_l_same.mg T.d_l_same.fn.kp T.d_l_same.b .nil pass0 (pa_cons (pe_meth0 (pv 0) T.L_Kettles T.m_Kettles_boiled_off (ok_Kettles_boiled_off T) (hr.mono (by decide)) T.b_Kettles_boiled_off .nil pass0) (pa_cons (pe_dget (hu_of hr) (pv 1) pe_str (fun _ _ => rfl)) pa_nil))))) (pss_one (ps_ret pe_bl)) pss_nil)
      (pss_cons (ps_lock (ps_for PassesOwn.never rfl (pi_items (pe_dget (hu_of hr) (pv 1) pe_str (fun _ _ => rfl))) (pg_tupK (K := K) rfl rfl (pgs_cons (pg_name (i := 2) sc_l_stands.nd rfl (by first | exact Or.inl rfl | exact Or.inr rfl)) (pgs_cons (pg_name (i := 3) sc_l_stands.nd rfl (by first | exact Or.inl rfl | exact Or.inr rfl)) pgs_nil))) (pss_cons (ps_set (i := 4) sc_l_stands.nd rfl (by first | exact Or.inl rfl | exact Or.inr rfl) (pe_lstI (pa_cons (pe_meth (pv 0) T.L_Kettles T.m_Kettles_juice_of (ok_Kettles_juice_of T) (hr.mono (by decide)) T.b_Kettles_juice_of .nil passX0 (pa_cons (pv 2) pa_nil)) (pa_cons (pe_meth (pv 0) T.L_Kettles T.m_Kettles_in_work (ok_Kettles_in_work T) (hr.mono (by decide)) T.b_Kettles_in_work .nil passX0 (pa_cons (pv 2) pa_nil)) (pa_cons (pe_meth (pv 0) T.L_Kettles T.m_Kettles_is_ready (ok_Kettles_is_ready T) (hr.mono (by decide)) T.b_Kettles_is_ready .nil passX0 (pa_cons (pv 2) pa_nil)) (pa_cons (pe_meth (pv 0) T.L_Kettles T.m_Kettles_ready_at (ok_Kettles_ready_at T) (hr.mono (by decide)) T.b_Kettles_ready_at .nil passX0 (pa_cons (pv 2) pa_nil)) pa_nil))))))
      (pss_cons (ps_set (i := 5) sc_l_stands.nd rfl (by first | exact Or.inl rfl | exact Or.inr rfl) (pe_and (pe_cmpR op_gt (pe_ix (ixT (K := K) rfl) (pe_ix (ixL (K := K) rfl) (pv 3) pe_int (fun _ _ => rfl)) pe_int (fun _ _ => rfl)) pe_int (nomark _)) (pe_one (pe_cmpR (eqDK (K := K) rfl hr.units) (pe_ix (ixL (K := K) rfl) (pv 3) pe_int (fun _ _ => rfl)) (pe_call (ok_l_least T) (hr.mono (by decide)) (by rfl) T.d_l_least.mg T.d_l_least.fn.kp T.d_l_least.b .nil pass0 (pa_cons (pv 3) pa_nil)) (nomark _)))))
      (pss_one (ps_if (pt_not (pt_val (pe_call (ok_l_same T) hr (by rfl) T.d_l_same.mg T.d_l_same.fn.kp T.d_l_same.b .nil pass0 (pa_cons (pv 4) (pa_cons (pe_lstI (pa_cons (pe_tupI (pa_cons (pe_ix (ixL (K := K) rfl) (pv 3) pe_int (fun _ _ => rfl)) (pa_cons (pe_ix (ixL (K := K) rfl) (pv 3) pe_int (fun _ _ => rfl)) pa_nil))) (pa_cons (pe_ix (ixL (K := K) rfl) (pv 3) pe_int (fun _ _ => rfl)) (pa_cons (pv 5) (pa_cons (pe_call (ok_l_ready T) (hr.mono (by decide)) (by rfl) T.d_l_ready.mg T.d_l_ready.fn.kp T.d_l_ready.b .nil pass0 (pa_cons (pv 1) (pa_cons (pv 3) pa_nil))) pa_nil))))) pa_nil))))) (pss_one (ps_ret pe_bl)) pss_nil))))))
      (pss_one (ps_ret pe_bl))))), ?_⟩
  obtain ⟨M, L, N, n, md, okk, gd⟩ := inv.get j9
  have hour60 : S.hour < 2 ^ 60 := by
    have := inv.hr
    omega
  obtain ⟨dx, rv, bv, hp, _⟩ := hk.p
  obtain ⟨gv, ha, hg⟩ := hl.a
  refine ⟨_, rfl, Ad.p, dx, _, rfl, hp, rfl, Ad, nms, S, rfl, hk, ?_⟩
  refine ⟨_, rfl, Ad.p, dx, _, rfl, hp, rfl, Ad, nms, S, rfl, hk, fun na H1 s1 n1 h1 => ?_⟩
  refine ⟨rfl, fun F H2 s2 n2 h2 => ?_⟩
  have s02 := s1.trans s2
  have dhr : Dtu K H2 3 (.int S.hour) (.int S.hour) := .int _ _
  refine ⟨_, rfl, Bd.a, _, rfl, .inl ⟨_, kN "hour", .inl (s02 _ _ ha), rfl, rfl⟩, _, rfl, Bd.a, _, rfl, .inl ⟨_, kN "rows", .inl (s02 _ _ ha), rfl, rfl⟩, Bd.r, _, rfl, .inl (s02 _ _ hl.r), fun lp nlp => ?_⟩
  rw [byN_keys]
  have s3 : Same H2 (upd H2 lp (.lst (nms.map V.str))) := same_new nlp
  have h3 : (upd H2 lp (.lst (nms.map V.str))) lp = some (.lst (nms.map V.str)) := upd_same
  generalize upd H2 lp (.lst (nms.map V.str)) = H3 at s3 h3
  refine ⟨rfl, fun G H4 s4 n4 h4 => ?_⟩
  have s34 := s3.trans s4
  have ll : nms.length ≤ 100000 := Nat.le_trans hl.ln (by decide)
  have nk : ∀ {X : Hp} {a : Addr}, X a = some (.lst (nms.map V.str)) → Dk K X 7 (.ref a) (.list (nms.map PyData.str)) := fun e => dkT_list e (dtuT_strs lay) (by decide) (by rw [List.length_map]; exact ll)
  refine ⟨_, _, .list [.int S.hour, .list (nms.map PyData.str)], rfl, dkT_two (s34 _ _ h2) (.int _ _) (nk ((s2.trans s34) _ _ h1)), dkT_two h4 (.int _ _) (nk (s4 _ _ h3)), fun H5 s5 => ?_⟩
  refine ⟨_, rfl, iteF ?_⟩
  have s05 := s02.trans (s34.trans s5)
  have hk5 := hk.same s05
  have hl5 := hl.same s05
  refine ⟨_, rfl, Ad.p, dx, _, rfl, s05 _ _ hp, rfl, Ad, nms, S, rfl, hk5, fun ga hga => ?_⟩
  obtain ⟨g2, ha5, hg5⟩ := hl5.a
  obtain ⟨g5, rfl, hg5⟩ := hg5
  refine ⟨_, rfl, Bd.a, _, rfl, .inl ⟨_, kN "gone", .inl ha5, rfl, rfl⟩, ?_⟩
  refine ⟨_, _, dq S.gone, rfl, (hga.dtu 6).dk, (hg5.dtu 6).dk, fun H6 s6 => ?_⟩
  refine ⟨_, rfl, iteF ?_⟩
  have s06 := s05.trans s6
  have hk6 := hk5.same s6
  have hl6 := hl5.same s6
  have ha6 := s6 _ _ ha5
  have hr6 := hl6.r
  refine ⟨Bd.r, _, hr6, trivial, fun od => ?_⟩
  have oL : Off K (· = Bd.r) H6 (upd H6 Bd.r (.frz od (.dK (byK kN nms fun x => .ref (Bd.c x))))) := .put hr6 .dK rfl
  have gL : (upd H6 Bd.r (.frz od (.dK (byK kN nms fun x => .ref (Bd.c x))))) Bd.r = some (.frz od (.dK (byK kN nms fun x => .ref (Bd.c x)))) := upd_same
  have lk : ∀ {X : Hp}, Same (upd H6 Bd.r (.frz od (.dK (byK kN nms fun x => .ref (Bd.c x))))) X → Same H6 (upd X Bd.r (.dK (byK kN nms fun x => .ref (Bd.c x)))) := fun z => lock_same hr6 z
  generalize upd H6 Bd.r (HO.frz od _) = Lk at oL gL lk ⊢
  have hkL : KettlesAt K T.C_Kettles T.C_Kettle Lk Ad nms S := hk6.off oL (fun a r e => hk6.neD (kvs := byK kN nms fun x => .ref (Bd.c x)) r (by rw [show a = Bd.r from e]; exact hr6)) ntr
  have rowL : ∀ x ∈ nms, LRow K Lk (Bd.c x) (S.st x) := fun x hx => (hl6.row x hx).off oL (hl6.rc hx).symm
  have aL : Lk Bd.a = some (.dK (skv S.hour (.ref g5) Bd.r)) := oL.dK hl6.ar ha6
  refine ⟨_, rfl, Bd.a, _, rfl, .inl ⟨_, kN "rows", .inl aL, rfl, rfl⟩, Bd.r, od, _, rfl, gL, ?_⟩
  refine for_items (fun i σ H' => ∃ (x2 x3 x4 x5 : Option V), σ = [some (.ref Ad.p), some (.ref Bd.a), x2, x3, x4, x5] ∧ Same Lk H') ⟨_, _, _, _, rfl, .refl _⟩ (fun i σ H' _ ⟨_, _, _, _, _, sm⟩ => sm _ _ gL) ?_ ?_
  · rintro i k v σ H' t hi ⟨x2, x3, x4, x5, rfl, sm⟩ nt
    obtain ⟨x, hx, e⟩ := byK_get hi
    cases e
    have hxm := List.mem_of_getElem? hx
    have st : Same H' (upd H' t (.tup [kV (kN x), .ref (Bd.c x)])) := same_new nt
    have ht : (upd H' t (.tup [kV (kN x), .ref (Bd.c x)])) t = some (.tup [kV (kN x), .ref (Bd.c x)]) := upd_same
    generalize upd H' t _ = G0 at st ht
    have sG := sm.trans st
    have hkG := hkL.same sG
    have rowG := (rowL x hxm).off (R := fun _ => False) (.same sG) id
    obtain ⟨dxl, rvl, bvl, hpG, _⟩ := hkG.p
    have kx := okk x hxm
    obtain ⟨rb, qb⟩ := kx.rbig n
    have vol : Big ((S.st x).s + (S.st x).w) := (vbig2 n (kx.inS n |>.mono (by decide +kernel)) (kx.inW n |>.mono (by decide +kernel)) (kx.inS n |>.mono (by decide +kernel)) (kx.inW n |>.mono (by decide +kernel))).2.1
    refine ⟨t, _, rfl, SqT.of ht, rfl, _, _, rfl, _, _, rfl, rfl, ?_⟩
    refine ⟨_, rfl, Ad.p, dxl, _, rfl, hpG, rfl, _, rfl, Ad, nms, S, x, rfl, hkG, fun z => absurd hxm z, fun _ ja hja => ?_⟩
    refine ⟨_, rfl, Ad.p, dxl, _, rfl, hpG, rfl, _, rfl, Ad, nms, S, x, rfl, hkG, fun z => absurd hxm z, fun _ => ?_⟩
    refine ⟨_, rfl, Ad.p, dxl, _, rfl, hpG, rfl, _, rfl, Ad, nms, S, x, rfl, hkG, fun _ => ⟨rb.s, rb.w, vol⟩, fun z => absurd hxm z, fun _ G1 s1' => ?_⟩
    have hkG1 := hkG.same s1'
    refine ⟨_, rfl, Ad.p, dxl, _, rfl, s1' _ _ hpG, rfl, _, rfl, Ad, nms, S, x, rfl, hkG1, fun _ => rb, hour60, fun z => absurd hxm z, fun _ rv G2 s2' hrv => ?_⟩
    refine ⟨rfl, fun fl G3 s3' n3' hfl => ?_⟩
    have s13 := s1'.trans (s2'.trans s3')
    have row3 := rowG.off (R := fun _ => False) (.same s13) id
    obtain ⟨mv, sv, wv, hr3, hm, ⟨sa, rfl, hs⟩, ⟨wa, rfl, hw⟩⟩ := id row3
    have a3 := (sG.trans s13) _ _ aL
    have hju : JuQ K G3 ja (S.st x).s (S.st x).w := hja.same s13
    have hrv3 := hrv.same s3'
    have dfl : Dk K G3 8 (.ref fl) (.list [dj (S.st x).s (S.st x).w, .bool (S.st x).on, .bool (just (S.st x)), dOp (S.when x)]) := dkT_list hfl (n := 7) (.cons (hju.dtu 4) (.cons (.bl _ _) (.cons (.bl _ _) (.cons (hrv3.dtu.up (by decide)) .nil)))) (by decide) (by show 4 ≤ 100000; decide)
    have fin : ∀ (D : Ends) (G4 : Hp), Same G3 G4 → (∀ H', Same Lk H' → D.nx [some (.ref Ad.p), some (.ref Bd.a), some (.str x), some (.ref (Bd.c x)), some (.ref fl), some (.bl (just (S.st x)))] H') → tIfS (tNot (tB (tCall (sp_l_same K 8) [] E0 (tCons (tVar 4) (tCons (tLstI (tCons (tTupI (tCons (tOp (rIxL K) (tVar 3) (tC (V.int 3))) (tCons (tOp (rIxL K) (tVar 3) (tC (V.int 4))) tNil))) (tCons (tOp (rIxL K) (tVar 3) (tC (V.int 5))) (tCons (tVar 5) (tCons (tCall (sp_kready K) [] E0 (tCons (tVar 1) (tCons (tVar 3) tNil))) tNil))))) tNil))))) (tRet (tC (V.bl false))) tNext
        D [some (.ref Ad.p), some (.ref Bd.a), some (.str x), some (.ref (Bd.c x)), some (.ref fl), some (.bl (just (S.st x)))] G4 := fun D G4 s4' nxt => by
      have hr4 := s4' _ _ hr3
      refine ⟨_, rfl, _, rfl, Bd.c x, _, 3, _, rfl, rfl, SqL.of hr4, at3, ?_⟩
      refine ⟨_, rfl, Bd.c x, _, 4, _, rfl, rfl, SqL.of hr4, at4, rfl, fun ju G5 s5' n5' hju5 => ?_⟩
      have hr5 := s5' _ _ hr4
      have s45 := s4'.trans s5'
      refine ⟨_, rfl, Bd.c x, _, 5, _, rfl, rfl, SqL.of hr5, at5, _, rfl, ?_⟩
      refine ⟨_, rfl, _, rfl, Bd, nms, S, x, rfl, ⟨_, s45 _ _ a3⟩, row3.off (R := fun _ => False) (.same s45) id, kx.mo, kx.f0, kx.s0, rb, hour60, qb, fun dv G6 s6' hdv => ?_⟩
      refine ⟨rfl, fun dl G7 s7' n7' hdl => ?_⟩
      have s67 := s6'.trans s7'
      have ju7 : JuQ K G7 ju (S.st x).s (S.st x).w := ⟨sa, wa, SqT.of (s67 _ _ hju5), hs.same (s45.trans s67), hw.same (s45.trans s67)⟩
      have ddl : Dk K G7 8 (.ref dl) (.list [dj (S.st x).s (S.st x).w, .bool (S.st x).on, .bool (just (S.st x)), dOp (S.when x)]) := dkT_list hdl (n := 7) (.cons (ju7.dtu 4) (.cons (.bl _ _) (.cons (.bl _ _) (.cons ((hdv.same s7').dtu.up (by decide)) .nil)))) (by decide) (by show 4 ≤ 100000; decide)
      refine ⟨_, _, _, rfl, dfl.same (s45.trans s67), ddl, fun G8 s8' => ?_⟩
      refine ⟨_, rfl, iteF ?_⟩
      exact nxt G8 (sG.trans (s13.trans (s45.trans (s67.trans s8'))))
    refine ⟨_, rfl, Bd.c x, _, 3, _, rfl, rfl, SqL.of hr3, at3, sa, _, 0, _, rfl, rfl, hs, at0, _, _, rfl, rfl, _, rfl, ?_⟩
    have jis := just_is kx.mo.u0 kx.mo.u1 kx.s0 kx.w0
    by_cases c1 : 0 < (S.st x).s.num
    · rw [decide_eq_true c1]
      refine ⟨_, rfl, Bd.c x, _, 4, _, rfl, rfl, SqL.of hr3, at4, _, rfl, Bd.c x, S.st x, rfl, row3, kx.mo, rb.s, fun l G4 s4' hl4 => ?_⟩
      refine ⟨dq (S.st x).w, dq (wat (S.st x).s (S.st x).mark), (hw.same s4').dp, hl4.dp, rfl, rfl, ?_⟩
      rw [eqv_dq]
      rw [decide_eq_true (num_pos.mp c1), Bool.true_and] at jis
      rw [← jis]
      exact fin _ G4 s4' fun H' z => ⟨_, _, _, _, rfl, z⟩
    · rw [decide_eq_false c1]
      rw [decide_eq_false (fun z => c1 (num_pos.mpr z)), Bool.false_and] at jis
      rw [jis] at fin
      exact fin _ G3 (.refl _) fun H' z => ⟨_, _, _, _, rfl, z⟩
  · rintro σ H' ⟨x2, x3, x4, x5, rfl, sm⟩
    exact ⟨sm _ _ gL, q _ (s06.trans (lk sm))⟩

end
end KR
namespace KR
open PySem PySem.Spec PyProof.Rows L2
section
variable {P : Program} {w : World} {K : PySem.W.Frag} {mg : Str → Option Value} {base : Heap}
/-- an amount up to so much -/
structure AmOk (m : Int) (q : Rat) : Prop where
  q0 : 0 ≤ q
  q1 : q ≤ (m : Rat)
  qd : Dv B60 q
def sp_kamount (K : PySem.W.Frag) : Sp := fun vs H Q _ => ∃ (b : Addr) (n : Nat) (m : Int), vs = [.ref b, .int m] ∧ BoxAt H b n ∧ n ≤ 900000000 ∧ 1 ≤ m ∧ m ≤ 1000000 ∧ ∀ a q H', BoxAt H' b (n + 3) → Off K (· = b) H H' → FrQ K H' a q → AmOk m q → Q (.ref a) H'
theorem ok_l_amount (T : All K mg) : FnOk P w K mg base CX0 2 T.f_l_amount T.fd_l_amount ["_law_box_here", "_law_most"] (sp_kamount K) := by
  refine T.d_l_amount.fn.ok sc_l_amount (fun vs H Q E h => ?_) (fun cdv A outer s H vs Q E hr h => ?_)
  · obtain ⟨b, n, m, rfl, _⟩ := h
    rfl
  · obtain ⟨b, n, m, rfl, hB, hn, m0, m9, q⟩ := h
    refine ⟨_, (pss_cons (ps_par (i := 2) (j := 3) (by rfl) sc_l_amount.nd rfl rfl (by decide) rfl rfl (pa_cons (pe_call (ok_l_take T) hr (by rfl) T.d_l_take.mg T.d_l_take.fn.kp T.d_l_take.b .nil pass0 (pa_cons (pv 0) (pa_cons pe_int pa_nil))) (pa_cons (pe_op op_add pe_int (pe_call (ok_l_take T) hr (by rfl) T.d_l_take.mg T.d_l_take.fn.kp T.d_l_take.b .nil pass0 (pa_cons (pv 0) (pa_cons pe_int pa_nil)))) pa_nil)) (by rfl))
      (pss_cons (ps_if (pt_cmpR op_eq (pv 2) pe_int (nomark _)) (pss_one (ps_ret (pe_tupI (pa_cons pe_int (pa_cons pe_int pa_nil))))) pss_nil)
      (pss_one (ps_ret (pe_ifExp (pt_cmpR op_eq (pv 2) pe_int (nomark _)) (pe_tupI (pa_cons (pe_call (ok_l_take T) hr (by rfl) T.d_l_take.mg T.d_l_take.fn.kp T.d_l_take.b .nil pass0 (pa_cons (pv 0) (pa_cons (pe_op op_add (pv 1) pe_int) pa_nil))) (pa_cons pe_int pa_nil))) (pe_call (ok_l_low T) hr (by rfl) T.d_l_low.mg T.d_l_low.fn.kp T.d_l_low.b .nil pass0 (pa_cons (pe_call (ok_l_take T) hr (by rfl) T.d_l_take.mg T.d_l_take.fn.kp T.d_l_take.b .nil pass0 (pa_cons (pv 0) (pa_cons (pe_op op_add (pe_op op_mulX (pv 1) (pv 3)) pe_int) pa_nil))) (pa_cons (pv 3) pa_nil)))))))), ?_⟩
    refine ⟨_, rfl, b, 4, _, rfl, hB, by omega, by decide, by decide, fun y H1 y0 y1 B1 F1 => ?_⟩
    refine ⟨_, rfl, b, 60, _, rfl, B1, by omega, by decide, by decide, fun z H2 z0 z1 B2 F2 => ⟨_, _, rfl, rfl, _, _, rfl, ?_⟩⟩
    have o2 : Off K (· = b) H H2 := (Off.box hB F1).seq (.box B1 F2)
    refine ⟨_, rfl, rfl, _, rfl, ?_⟩
    have z0q : AmOk m 0 := ⟨Rat.le_refl, by
      have : ((0 : Int) : Rat) ≤ (m : Rat) := Rat.intCast_le_intCast.mpr (by omega)
      exact this, Dv.zero⟩
    by_cases c0 : V.int y = V.int 0
    · rw [decide_eq_true c0]
      refine ⟨rfl, fun a H3 s3 n3 h3 => ?_⟩
      exact q a 0 H3 ((B2.same s3).mono (by omega)) (o2.seq (.same s3)) (FrQ.int (z := 0) h3) z0q
    rw [decide_eq_false c0]
    refine ⟨_, rfl, rfl, _, rfl, ?_⟩
    by_cases c1 : V.int y = V.int 1
    · rw [decide_eq_true c1]
      refine ⟨_, rfl, _, rfl, _, _, rfl, rfl, b, (m + 1).toNat, _, ?_, B2, by omega, by omega, by omega, fun u H3 u0 u1 B3 F3 => ⟨rfl, fun a H4 s4 n4 h4 => ?_⟩⟩
      · show [V.ref b, V.int (m + 1)] = [V.ref b, V.int ((m + 1).toNat : Int)]
        rw [show (((m + 1).toNat : Nat) : Int) = m + 1 by omega]
      · refine q a (u : Rat) H4 (B3.same s4) ((o2.seq (.box B2 F3)).seq (.same s4)) (FrQ.int h4) ⟨?_, Rat.intCast_le_intCast.mpr (by omega), Dv.int u⟩
        have : ((0 : Int) : Rat) ≤ (u : Rat) := Rat.intCast_le_intCast.mpr u0
        exact this
    rw [decide_eq_false c1]
    have p1 : (m : Int).natAbs < 2 ^ 21 := by omega
    have p2 : (1 + z : Int).natAbs < 2 ^ 7 := by omega
    have mz0 : 0 ≤ m * (1 + z) := Int.mul_nonneg (by omega) (by omega)
    have mz9 : m * (1 + z) ≤ 1000000 * 60 := Int.mul_le_mul m9 (by omega) (by omega) (by decide)
    refine ⟨_, rfl, _, rfl, _, rfl, _, _, rfl, rfl, mulW p1 p2 (by decide) (by decide) (by decide), _, _, rfl, rfl, ?_⟩
    generalize hN : m * (1 + z) = N at mz0 mz9
    refine ⟨b, (N + 1).toNat, _, ?_, B2, by omega, by omega, by omega, fun u H3 u0 u1 B3 F3 => ?_⟩
    · show [V.ref b, V.int (N + 1)] = [V.ref b, V.int ((N + 1).toNat : Int)]
      rw [show (((N + 1).toNat : Nat) : Int) = N + 1 by omega]
    refine ⟨_, rfl, _, _, rfl, by omega, lt_up (show u.natAbs < 2 ^ 30 by omega) (by decide), lt_up p2 (by decide), fun a H4 s4 n4 h4 => ?_⟩
    refine q a _ H4 (B3.same s4) ((o2.seq (.box B2 F3)).seq (.same s4)) h4 ⟨rq_nn u0 (by omega), ?_, (Dv.rq (t := u) (b := 1 + z) (by omega)).up (b60 _ (by omega) (by omega))⟩
    show (u : Rat) / ((1 + z : Int) : Rat) ≤ (m : Rat)
    have h0 : (0 : Rat) < ((1 + z : Int) : Rat) := by
      have : ((0 : Int) : Rat) < ((1 + z : Int) : Rat) := Rat.intCast_lt_intCast.mpr (by omega)
      exact this
    have h1 : (u : Rat) ≤ (m : Rat) * ((1 + z : Int) : Rat) := by
      rw [← Rat.intCast_mul, hN]
      exact Rat.intCast_le_intCast.mpr (by omega)
    have e : (u : Rat) / ((1 + z : Int) : Rat) * ((1 + z : Int) : Rat) = u := by
      have : ((1 + z : Int) : Rat) ≠ 0 := fun z => by rw [z] at h0; exact Rat.lt_irrefl h0
      grind
    refine Classical.byContradiction fun c => ?_
    have c := Rat.not_le.mp c
    have k := Rat.mul_lt_mul_of_pos_right c h0
    grind

end
end KR
namespace KR
open PySem PySem.Spec PyProof.Rows L2
section
variable {P : Program} {w : World} {K : PySem.W.Frag} {mg : Str → Option Value} {base : Heap}
/-- a juice that a law pours -/
structure JuD (u s w : Rat) : Prop where
  s0 : 0 ≤ s
  s9 : s ≤ 1000000
  w0 : 0 ≤ w
  w9 : w ≤ 1000000
  sd : Dv B60 s
  wd : Dv B60 w ∨ Dv (B60 * u.num.natAbs) w
def sp_kjuice (K : PySem.W.Frag) : Sp := fun vs H Q _ => ∃ (b : Addr) (n : Nat) (l : Addr) (xs : List V) (room : Int) (m : Addr) (u : Rat), vs = [.ref b, .ref l] ∧ BoxAt H b n ∧ n ≤ 800000000 ∧ l ≠ b ∧ H l = some (.lst xs) ∧ atI xs 0 = some (.int room) ∧ atI xs 2 = some (.ref m) ∧ FrQ K H m u ∧ MOk u ∧ 1 ≤ room ∧ room ≤ 1000000 ∧
  ∀ a s w H', BoxAt H' b (n + 8) → Off K (· = b) H H' → JuQ K H' a s w → JuD u s w → Q (.ref a) H'
theorem ok_l_juice (T : All K mg) : FnOk P w K mg base CX0 3 T.f_l_juice T.fd_l_juice ["_law_box_here", "_law_row_here"] (sp_kjuice K) := by
  refine T.d_l_juice.fn.ok sc_l_juice (fun vs H Q E h => ?_) (fun cdv A outer s H vs Q E hr h => ?_)
  · obtain ⟨b, n, l, xs, room, m, u, rfl, _⟩ := h
    rfl
  obtain ⟨b, n, l, xs, room, m, u, rfl, hB, hn, lb, h1, a0, a2, hm, mo, r1, r9, q⟩ := h
  refine ⟨_, (pss_cons (ps_set (i := 2) sc_l_juice.nd rfl (by first | exact Or.inl rfl | exact Or.inr rfl) (pe_callB (call_max2 rfl) (by rfl) T.b_max (by decide +kernel) (pa_cons pe_int (pa_cons (pe_ix (ixL (K := K) rfl) (pe_lstI (pa_cons (pe_op op_fdivW (pe_ix (ixL (K := K) rfl) (pv 1) pe_int (fun _ _ => rfl)) pe_int) (pa_cons (pe_op op_fdivW (pe_ix (ixL (K := K) rfl) (pv 1) pe_int (fun _ _ => rfl)) pe_int) (pa_cons (pe_ix (ixL (K := K) rfl) (pv 1) pe_int (fun _ _ => rfl)) pa_nil)))) (pe_call (ok_l_take T) (hr.mono (by decide)) (by rfl) T.d_l_take.mg T.d_l_take.fn.kp T.d_l_take.b .nil pass0 (pa_cons (pv 0) (pa_cons pe_int pa_nil))) (fun _ _ => rfl)) pa_nil))))
      (pss_cons (ps_par (i := 3) (j := 4) (by rfl) sc_l_juice.nd rfl rfl (by decide) rfl rfl (pa_cons (pe_call (ok_l_amount T) hr (by rfl) T.d_l_amount.mg T.d_l_amount.fn.kp T.d_l_amount.b .nil pass0 (pa_cons (pv 0) (pa_cons (pv 2) pa_nil))) (pa_cons (pe_call (ok_l_amount T) hr (by rfl) T.d_l_amount.mg T.d_l_amount.fn.kp T.d_l_amount.b .nil pass0 (pa_cons (pv 0) (pa_cons (pv 2) pa_nil))) pa_nil)) (by rfl))
      (pss_cons (ps_set (i := 5) sc_l_juice.nd rfl (by first | exact Or.inl rfl | exact Or.inr rfl) (pe_call (ok_l_by T) hr (by rfl) T.d_l_by.mg T.d_l_by.fn.kp T.d_l_by.b .nil pass0 (pa_cons (pv 3) (pa_cons (pe_call (ok_l_low T) (hr.mono (by decide)) (by rfl) T.d_l_low.mg T.d_l_low.fn.kp T.d_l_low.b .nil pass0 (pa_cons (pe_op op_sub (pe_ix (ixT (K := K) rfl) (pe_ix (ixL (K := K) rfl) (pv 1) pe_int (fun _ _ => rfl)) pe_int (fun _ _ => rfl)) (pe_ix (ixT (K := K) rfl) (pe_ix (ixL (K := K) rfl) (pv 1) pe_int (fun _ _ => rfl)) pe_int (fun _ _ => rfl))) (pa_cons (pe_ix (ixT (K := K) rfl) (pe_ix (ixL (K := K) rfl) (pv 1) pe_int (fun _ _ => rfl)) pe_int (fun _ _ => rfl)) pa_nil))) pa_nil))))
      (pss_cons (ps_J (ps_if (PW.pt (pw_and (pt_cmpR op_eq (pe_call (ok_l_take T) (hr.mono (by decide)) (by rfl) T.d_l_take.mg T.d_l_take.fn.kp T.d_l_take.b .nil pass0 (pa_cons (pv 0) (pa_cons pe_int pa_nil))) pe_int (nomark _)) (pw_and1 (pt_not (pt_val (pe_call (ok_l_less T) (hr.mono (by decide)) (by rfl) T.d_l_less.mg T.d_l_less.fn.kp T.d_l_less.b .nil pass0 (pa_cons (pe_tupI (pa_cons (pe_op op_pow pe_int pe_int) (pa_cons pe_int pa_nil))) (pa_cons (pv 5) pa_nil)))))))) (pss_one (ps_set (i := 4) sc_l_juice.nd rfl (by first | exact Or.inl rfl | exact Or.inr rfl) (pv 5))) pss_nil))
      (pss_one (ps_ret (pe_ifExp (pt_cmpR (neDK (K := K) rfl hr.units) (pe_tupI (pa_cons (pv 3) (pa_cons (pv 4) pa_nil))) (pe_tupI (pa_cons (pe_tupI (pa_cons pe_int (pa_cons pe_int pa_nil))) (pa_cons (pe_tupI (pa_cons pe_int (pa_cons pe_int pa_nil))) pa_nil))) (nomark _)) (pe_tupI (pa_cons (pv 3) (pa_cons (pv 4) pa_nil))) (pe_tupI (pa_cons (pe_tupI (pa_cons pe_int (pa_cons pe_int pa_nil))) (pa_cons (pe_tupI (pa_cons pe_int (pa_cons pe_int pa_nil))) pa_nil)))))))))), ?_⟩
  have hm' : SqT K H m [.int u.num, .int (u.den : Int)] := hm
  obtain ⟨n0, n1⟩ := mo.num
  have d := mo.ud
  obtain ⟨pe, pz⟩ := mo.per
  have dv0 : ∀ i : Int, 0 < i → i.natAbs < 2 ^ 13 → CDivW room i := fun i i0 i1 => ⟨i0, Nat.lt_of_le_of_lt (Nat.log2_le_self _) (Nat.lt_trans i1 (by decide))⟩
  refine ⟨_, rfl, l, _, 0, _, rfl, rfl, SqL.of h1, a0, _, _, rfl, rfl, dv0 6 (by decide) (by decide), ?_⟩
  refine ⟨_, rfl, l, _, 0, _, rfl, rfl, SqL.of h1, a0, _, _, rfl, rfl, dv0 2 (by decide) (by decide), ?_⟩
  refine ⟨_, rfl, l, _, 0, _, rfl, rfl, SqL.of h1, a0, rfl, fun L1 H1 s1 n1' hL1 => ?_⟩
  refine ⟨_, rfl, b, 3, n, rfl, hB.same s1, by omega, by decide, by decide, fun z H2 z0 z1 B2 F2 => ?_⟩
  have o2 : Off K (· = b) H H2 := (Off.same s1).seq (.box (hB.same s1) F2)
  have hL2 := F2 _ _ (fun e => by rw [e] at n1'; exact absurd (hB.new n1') (fun z => z rfl)) hL1
  obtain ⟨y, ey, y0, y9⟩ : ∃ y, atI [V.int (room / 6), V.int (room / 2), V.int room] z = some (.int y) ∧ 0 ≤ y ∧ y ≤ 1000000 := by
    rcases (by omega : z = 0 ∨ z = 1 ∨ z = 2) with rfl | rfl | rfl
    · exact ⟨_, at0, by omega, by omega⟩
    · exact ⟨_, at1, by omega, by omega⟩
    · exact ⟨_, at2, by omega, by omega⟩
  refine ⟨L1, _, z, _, rfl, rfl, SqL.of hL2, ey, 1, y, rfl, ?_⟩
  obtain ⟨m1, m9⟩ : 1 ≤ (if y > 1 then y else 1) ∧ (if y > 1 then y else 1) ≤ 1000000 := by
    split
    · omega
    · omega
  generalize (if y > 1 then y else 1) = most at m1 m9
  refine ⟨_, rfl, _, rfl, b, n + 1, most, rfl, B2, by omega, m1, m9, fun sa sq H3 B3 o3 hs as => ?_⟩
  refine ⟨_, rfl, _, rfl, b, n + 4, most, rfl, B3, by omega, m1, m9, fun wa wq H4 B4 o4 hw aw => ?_⟩
  have o04 : Off K (· = b) H H4 := (o2.seq o3).seq o4
  have h4 := o04.lst lb h1
  have hm4 : FrQ K H4 m u := hm.tk o04.tk
  have hm4' : SqT K H4 m [.int u.num, .int (u.den : Int)] := hm4
  have hs4 := hs.tk o4.tk
  have kx : KOk B60 u.num.natAbs ⟨1000000, 0, u, sq, 0, true⟩ := ⟨(by decide : (1:Int) ≤ 1000000), (by decide : (1000000:Int) ≤ 1000000), (by decide : (0:Int) ≤ 0), (by decide : (0:Int) ≤ 10000), mo, Nat.dvd_refl _, as.q0, Rat.le_refl, by
    have a1 := as.q1
    have a2 : (most : Rat) ≤ ((1000000 : Int) : Rat) := Rat.intCast_le_intCast.mpr m9
    show sq + 0 ≤ ((1000000 : Int) : Rat)
    grind, as.qd, Dv.zero⟩
  have l8 : u.num.natAbs ≤ 60 ^ 8 := Nat.le_trans (show u.num.natAbs ≤ 60 by omega) (by decide)
  have nn := KInv.nok (nms := []) (j := 0) (M := B60) (L := u.num.natAbs) (by decide) (by decide +kernel) (by rw [Nat.pow_zero, Nat.mul_one]; exact Nat.le_refl _) (by omega) l8
  obtain ⟨rb, _⟩ := kx.rbig nn
  have bs : Big sq := rb.s
  have bw : Big (wat sq u) := rb.l
  have w00 : 0 ≤ wat sq u := (kx.wat_in nn).2
  have wdv : Dv (B60 * u.num.natAbs) (wat sq u) := kx.wat_dv
  have up6 : ∀ {x : Rat}, x ≤ (most : Rat) → x ≤ 1000000 := fun {x} a1 => by
    have a2 : (most : Rat) ≤ ((1000000 : Int) : Rat) := Rat.intCast_le_intCast.mpr m9
    have a3 : ((1000000 : Int) : Rat) = 1000000 := rfl
    grind
  refine ⟨_, _, rfl, ?_⟩
  refine ⟨_, rfl, ?_⟩
  refine ⟨_, rfl, l, _, 2, _, rfl, rfl, SqL.of h4, a2, m, _, 1, _, rfl, rfl, hm4', at1, ?_⟩
  refine ⟨_, rfl, l, _, 2, _, rfl, rfl, SqL.of h4, a2, m, _, 0, _, rfl, rfl, hm4', at0, _, _, rfl, rfl, ?_⟩
  refine ⟨_, rfl, l, _, 2, _, rfl, rfl, SqL.of h4, a2, m, _, 0, _, rfl, rfl, hm4', at0, ?_⟩
  refine ⟨_, _, rfl, by omega, lt_up (show ((u.den : Int) - u.num).natAbs < 2 ^ 20 by omega) (by decide), lt_up (show u.num.natAbs < 2 ^ 20 by omega) (by decide), fun z H5 s5 n5' hz => ?_⟩
  refine ⟨sa, z, sq, _, rfl, hs4.same s5, hz, bs, pz.up (by decide), trivial, fun ja H6 s6 n6 h6 => ?_⟩
  have h6 : FrQ K H6 ja (sq * rq ((u.den : Int) - u.num) u.num) := h6
  rw [pe, wat_per mo.ne] at h6
  have s46 := s5.trans s6
  have B6 := (B4.same s46)
  refine ⟨fun σ H' => ∃ (wa' : Addr) (w' : Rat), σ = [some (.ref b), some (.ref l), some (.int most), some (.ref sa), some (.ref wa'), some (.ref ja)] ∧ BoxAt H' b (n + 8) ∧ Off K (· = b) H6 H' ∧ FrQ K H' wa' w' ∧ JuD u sq w', ?_, ?_⟩
  case' refine_2 =>
    have j1 : JuD u sq wq := ⟨as.q0, up6 as.q1, aw.q0, up6 aw.q1, as.qd, .inl aw.qd⟩
    refine ⟨_, rfl, b, 5, n + 7, rfl, B6, by omega, by decide, by decide, fun y2 H7 y3 y4 B7 F7 => ?_⟩
    have o67 : Off K (· = b) H6 H7 := .box B6 F7
    refine ⟨rfl, _, rfl, ?_⟩
    by_cases c0 : V.int y2 = V.int 0
    · rw [decide_eq_true c0]
      refine ⟨_, _, rfl, rfl, ⟨by decide, by decide, by decide⟩, rfl, fun tp H8 s8 n8 h8 => ?_⟩
      have h6' := (h6.tk o67.tk).same s8
      have ht : FrQ K H8 tp ((1000000 : Int) : Rat) := FrQ.int (z := 1000000) (by exact h8)
      refine ⟨_, rfl, tp, ja, ((1000000 : Int) : Rat), wat sq u, rfl, ht, h6', Sz.up (n := 21) (Sz.int (by decide) (by decide)) (by decide), bw, _, rfl, ?_⟩
      have o68 : Off K (· = b) H6 H8 := o67.seq (.same s8)
      by_cases c : ((1000000 : Int) : Rat) < wat sq u
      · rw [decide_eq_true c]
        exact ite_bF (b := !true) rfl ⟨wa, wq, rfl, B7.same s8, o68, hw.tk ((Off.same (K := K) (R := fun _ => False) s46).tk.trans o68.tk), j1⟩
      · rw [decide_eq_false c]
        exact ite_bT (b := !false) rfl ⟨_, rfl, ja, wat sq u, rfl, B7.same s8, o68, h6.tk o68.tk, as.q0, up6 as.q1, w00, by
          have a3 : ((1000000 : Int) : Rat) = 1000000 := rfl
          grind, as.qd, .inr wdv⟩
    · rw [decide_eq_false c0]
      exact ⟨wa, wq, rfl, B7, o67, hw.tk ((Off.same (K := K) (R := fun _ => False) s46).tk.trans o67.tk), j1⟩
  rintro σ H' ⟨wa', w', rfl, B8, o8, hw', ju⟩
  have o48 : Off K (· = b) H4 H' := (Off.same s46).seq o8
  have hs8 := hs4.tk o48.tk
  refine ⟨_, rfl, _, rfl, rfl, fun t1 H9 s9 n9 h9 => ⟨rfl, fun u1 Ha sa' na ha => ⟨rfl, fun u2 Hb sb nb hb => ⟨rfl, fun u3 Hc sc nc hc => ?_⟩⟩⟩⟩
  have s8c := s9.trans (sa'.trans (sb.trans sc))
  have ho : Off K (· = b) H Hc := ((o04.seq o48).seq (.same s8c))
  have j1 : JuQ K Hc t1 sq w' := ⟨sa, wa', SqT.of ((sa'.trans (sb.trans sc)) _ _ h9), hs8.same s8c, hw'.same s8c⟩
  have z1 : FrQ K Hc u1 ((0 : Int) : Rat) := FrQ.int ((sb.trans sc) _ _ ha)
  have z2 : FrQ K Hc u2 ((0 : Int) : Rat) := FrQ.int (sc _ _ hb)
  have j2 : JuQ K Hc u3 ((0 : Int) : Rat) ((0 : Int) : Rat) := ⟨u1, u2, SqT.of hc, z1, z2⟩
  refine ⟨dj sq w', dj 0 0, j1.dp, j2.dp, rfl, rfl, ?_⟩
  refine ⟨_, rfl, ?_⟩
  refine ite2 (fun c => ?_) (fun c => ?_)
  · refine ⟨_, rfl, _, rfl, rfl, fun t2 Hd sd nd hd => ?_⟩
    exact q t2 sq w' Hd ((B8.same s8c).same sd) (ho.seq (.same sd)) ⟨sa, wa', SqT.of hd, hs8.same (s8c.trans sd), hw'.same (s8c.trans sd)⟩ ju
  · refine ⟨rfl, fun v1 Hd sd nd hd => ⟨rfl, fun v2 He se ne he => ⟨rfl, fun v3 Hf sf nf hf => ?_⟩⟩⟩
    have sx := sd.trans (se.trans sf)
    have q1 : FrQ K Hf v1 (1 / 60 : Rat) := by
      show SqT K Hf v1 [.int (1 / 60 : Rat).num, .int ((1 / 60 : Rat).den : Int)]
      rw [show (1 / 60 : Rat).num = 1 by decide +kernel, show (((1 / 60 : Rat).den : Nat) : Int) = 60 by decide +kernel]
      exact SqT.of ((se.trans sf) _ _ hd)
    have q2 : FrQ K Hf v2 ((0 : Int) : Rat) := FrQ.int (sf _ _ he)
    refine q v3 (1 / 60) 0 Hf ((B8.same s8c).same sx) (ho.seq (.same sx)) ⟨v1, v2, SqT.of hf, q1, q2⟩ ⟨by decide +kernel, by decide +kernel, by decide +kernel, by decide +kernel, ⟨((B60 / 60 : Nat) : Int), by decide +kernel⟩, .inl Dv.zero⟩

end
end KR
namespace KR
open PySem PySem.Spec PyProof.Rows L2
section
variable {P : Program} {w : World} {K : PySem.W.Frag} {mg : Str → Option Value} {base : Heap}
def sp_ksome (K : PySem.W.Frag) : Sp := fun vs H Q _ => ∃ (b : Addr) (n : Nat), vs = [.ref b] ∧ BoxAt H b n ∧ n ≤ 900000000 ∧ ∀ a q H', BoxAt H' b (n + 4) → Off K (· = b) H H' → FrQ K H' a q → SAny q → Q (.ref a) H'
theorem ok_l_some_share (T : All K mg) : FnOk P w K mg base CX0 3 T.f_l_some_share T.fd_l_some_share ["_law_box_here"] (sp_ksome K) := by
  refine T.d_l_some_share.fn.ok sc_l_some_share (fun vs H Q E h => ?_) (fun cdv A outer s H vs Q E hr h => ?_)
  · obtain ⟨b, n, rfl, _⟩ := h
    rfl
  · obtain ⟨b, n, rfl, hB, hn, q⟩ := h
    refine ⟨_, (pss_cons (ps_set (i := 1) sc_l_some_share.nd rfl (by first | exact Or.inl rfl | exact Or.inr rfl) (pe_call (ok_l_share T) hr (by rfl) T.d_l_share.mg T.d_l_share.fn.kp T.d_l_share.b .nil pass0 (pa_cons (pv 0) pa_nil)))
      (pss_cons (ps_set (i := 2) sc_l_some_share.nd rfl (by first | exact Or.inl rfl | exact Or.inr rfl) (pe_lstI (pa_cons (pe_tupI (pa_cons pe_int (pa_cons pe_int pa_nil))) (pa_cons (pe_tupI (pa_cons (pe_un un_neg pe_int) (pa_cons pe_int pa_nil))) (pa_cons (pe_tupI (pa_cons pe_int (pa_cons pe_int pa_nil))) (pa_cons (pe_tupI (pa_cons pe_int (pa_cons pe_int pa_nil))) (pa_cons (pe_tupI (pa_cons pe_int (pa_cons pe_int pa_nil))) (pa_cons (pe_tupI (pa_cons pe_int (pa_cons pe_int pa_nil))) (pa_cons (pe_tupI (pa_cons (pe_un un_neg pe_int) (pa_cons pe_int pa_nil))) (pa_cons (pe_tupI (pa_cons pe_int (pa_cons pe_int pa_nil))) pa_nil))))))))))
      (pss_one (ps_ret (pe_ifExp (pt_cmpR op_eq (pe_call (ok_l_take T) (hr.mono (by decide)) (by rfl) T.d_l_take.mg T.d_l_take.fn.kp T.d_l_take.b .nil pass0 (pa_cons (pv 0) (pa_cons pe_int pa_nil))) pe_int (nomark _)) (pe_ix (ixL (K := K) rfl) (pv 2) (pe_call (ok_l_take T) (hr.mono (by decide)) (by rfl) T.d_l_take.mg T.d_l_take.fn.kp T.d_l_take.b .nil pass0 (pa_cons (pv 0) (pa_cons pe_int pa_nil))) (fun _ _ => rfl)) (pv 1)))))), ?_⟩
    refine ⟨_, rfl, b, _, rfl, hB, by omega, fun sa t H1 ok q0 q1 hsa B1 F1 => ?_⟩
    refine ⟨rfl, fun f0 H2 s2 m2 w2 => ?_⟩
    refine ⟨_, rfl, rfl, fun f1 H3 s3 m3 w3 => ?_⟩
    refine ⟨rfl, fun f2 H4 s4 m4 w4 => ?_⟩
    refine ⟨rfl, fun f3 H5 s5 m5 w5 => ?_⟩
    refine ⟨rfl, fun f4 H6 s6 m6 w6 => ?_⟩
    refine ⟨rfl, fun f5 H7 s7 m7 w7 => ?_⟩
    refine ⟨_, rfl, rfl, fun f6 H8 s8 m8 w8 => ?_⟩
    refine ⟨rfl, fun f7 H9 s9 m9 w9 => ?_⟩
    refine ⟨rfl, fun L HL sL mL wL => ?_⟩
    have o1 : Off K (· = b) H H1 := .box hB F1
    have sA : Same H1 HL := s2.trans (s3.trans (s4.trans (s5.trans (s6.trans (s7.trans (s8.trans (s9.trans sL)))))))
    have BL := B1.same sA
    have Lb : L ≠ b := ((((((((B1.same s2).same s3).same s4).same s5).same s6).same s7).same s8).same s9).new mL
    have oL := o1.seq (.same sA)
    refine ⟨_, rfl, b, 8, _, rfl, BL, by omega, by decide, by decide, fun y HY y0 y1 BY FY => ⟨rfl, _, rfl, ?_⟩⟩
    have oY := oL.seq (.box BL FY)
    by_cases c : V.int y = V.int 0
    case neg =>
      rw [decide_eq_false c]
      refine ⟨_, rfl, q sa t HY (BY.mono (by omega)) oY ((hsa.same sA).tk (Off.box (K := K) BL FY).tk) ⟨?_, ?_⟩⟩
      · obtain ⟨z1, z2, z3⟩ := ok; omega
      · obtain ⟨z1, z2, z3⟩ := ok; omega
    rw [decide_eq_true c]
    refine ⟨_, rfl, _, rfl, b, 8, _, rfl, BY, by omega, by decide, by decide, fun u HU u0 u1 BU FU => ?_⟩
    have oU := oY.seq (.box BY FU)
    have tU : TK K HL HU := (Off.box (K := K) BL FY).tk.trans (Off.box (K := K) BY FU).tk
    obtain ⟨fa, p, ef, hfa, hp⟩ : ∃ (fa : Addr) (p : Rat), atI ([V.ref f0, V.ref f1, V.ref f2, V.ref f3, V.ref f4, V.ref f5, V.ref f6, V.ref f7] : List V) u = some (.ref fa) ∧ FrQ K HU fa p ∧ SAny p := by
      have g : ∀ {c : Addr} {x y : Int} {q : Rat}, SqT K HU c [.int x, .int y] → q.num = x → (q.den : Int) = y → FrQ K HU c q := fun h e1 e2 => by
        show SqT K HU _ [.int _, .int _]
        rw [e1, e2]
        exact h
      have w : u = 0 ∨ u = 1 ∨ u = 2 ∨ u = 3 ∨ u = 4 ∨ u = 5 ∨ u = 6 ∨ u = 7 := by omega
      rcases w with e | e | e | e | e | e | e | e <;> subst e
      · exact ⟨f0, (0 : Rat), rfl, g (tU _ _ (SqT.of ((s3.trans (s4.trans (s5.trans (s6.trans (s7.trans (s8.trans (s9.trans (sL)))))))) _ _ w2))) (by decide +kernel) (by decide +kernel), by constructor <;> decide +kernel⟩
      · exact ⟨f1, (-1 / 2 : Rat), rfl, g (tU _ _ (SqT.of ((s4.trans (s5.trans (s6.trans (s7.trans (s8.trans (s9.trans (sL))))))) _ _ w3))) (by decide +kernel) (by decide +kernel), by constructor <;> decide +kernel⟩
      · exact ⟨f2, (13 / 12 : Rat), rfl, g (tU _ _ (SqT.of ((s5.trans (s6.trans (s7.trans (s8.trans (s9.trans (sL)))))) _ _ w4))) (by decide +kernel) (by decide +kernel), by constructor <;> decide +kernel⟩
      · exact ⟨f3, (1 / 13 : Rat), rfl, g (tU _ _ (SqT.of ((s6.trans (s7.trans (s8.trans (s9.trans (sL))))) _ _ w5))) (by decide +kernel) (by decide +kernel), by constructor <;> decide +kernel⟩
      · exact ⟨f4, (2 : Rat), rfl, g (tU _ _ (SqT.of ((s7.trans (s8.trans (s9.trans (sL)))) _ _ w6))) (by decide +kernel) (by decide +kernel), by constructor <;> decide +kernel⟩
      · exact ⟨f5, (12 / 13 : Rat), rfl, g (tU _ _ (SqT.of ((s8.trans (s9.trans (sL))) _ _ w7))) (by decide +kernel) (by decide +kernel), by constructor <;> decide +kernel⟩
      · exact ⟨f6, (-1 : Rat), rfl, g (tU _ _ (SqT.of ((s9.trans (sL)) _ _ w8))) (by decide +kernel) (by decide +kernel), by constructor <;> decide +kernel⟩
      · exact ⟨f7, (7 / 60 : Rat), rfl, g (tU _ _ (SqT.of ((sL) _ _ w9))) (by decide +kernel) (by decide +kernel), by constructor <;> decide +kernel⟩
    refine ⟨L, _, u, _, rfl, rfl, SqL.of (FU _ _ Lb (FY _ _ Lb wL)), ef, ?_⟩
    exact q fa p HU (BU.mono (by omega)) oU hfa hp

end
end KR
namespace KR
open PySem PySem.Spec PyProof.Rows L2
section
variable {P : Program} {w : World} {K : PySem.W.Frag} {mg : Str → Option Value} {base : Heap}
def sp_kname (K : PySem.W.Frag) : Sp := fun vs H Q _ => ∃ (b : Addr) (n : Nat) (B : LKA) (nms : List Str) (S : KS), vs = [.ref b, .ref B.a] ∧ BoxAt H b n ∧ n ≤ 900000000 ∧ LKAt K H B nms S ∧ nms ≠ [] ∧ ∀ x H', KNm nms x → BoxAt H' b (n + 2) → Off K (· = b) H H' → Q (.str x) H'
theorem ok_l_name (T : All K mg) : FnOk P w K mg base CX0 2 T.f_l_name T.fd_l_name ["_law_box_here", "_law_state"] (sp_kname K) := by
  refine T.d_l_name.fn.ok sc_l_name (fun vs H Q E h => ?_) (fun cdv A outer s H vs Q E hr h => ?_)
  · obtain ⟨b, n, B, nms, S, rfl, _⟩ := h
    rfl
  · obtain ⟨b, n, Bd, nms, S, rfl, hB, hn, hk, ne, q⟩ := h
    refine ⟨_, (pss_cons (ps_set (i := 2) sc_l_name.nd rfl (by first | exact Or.inl rfl | exact Or.inr rfl) (pe_callTy (call_listD rfl) (by rfl) T.b_list (by decide +kernel) (pa_cons (pe_dget (hu_of hr) (pv 1) pe_str (fun _ _ => rfl)) pa_nil)))
      (pss_one (ps_ret (pe_ix (ixL (K := K) rfl) (pe_op op_catI (pv 2) (pe_lstI (pa_cons pe_str pa_nil))) (pe_call (ok_l_take T) hr (by rfl) T.d_l_take.mg T.d_l_take.fn.kp T.d_l_take.b .nil pass0 (pa_cons (pv 0) (pa_cons (pe_op op_add (pe_callB (lenQ (K := K) rfl) (by rfl) T.b_len PySem.boot_len (pa_cons (pv 2) pa_nil)) (pe_callTy call_int1 (by rfl) T.b_int (by decide +kernel) (pa_cons (pe_cmpR op_eq (pe_call (ok_l_take T) hr (by rfl) T.d_l_take.mg T.d_l_take.fn.kp T.d_l_take.b .nil pass0 (pa_cons (pv 0) (pa_cons pe_int pa_nil))) pe_int (nomark _)) pa_nil))) pa_nil))) (fun _ _ => rfl))))), ?_⟩
    obtain ⟨gv, hd, _⟩ := hk.a
    refine ⟨_, rfl, Bd.a, _, rfl, .inl ⟨_, kN "rows", .inl hd, rfl, rfl⟩, Bd.r, _, rfl, .inl hk.r, fun L nL => ?_⟩
    rw [byN_keys]
    have s1 : Same H (upd H L (.lst (nms.map V.str))) := same_new nL
    have hL1 : (upd H L (.lst (nms.map V.str))) L = some (.lst (nms.map V.str)) := upd_same
    generalize upd H L (.lst (nms.map V.str)) = H1 at s1 hL1
    refine ⟨_, rfl, rfl, fun q1 H2 s2 n2 h2 => ?_⟩
    have lm : (nms.map V.str).length = nms.length := List.length_map _
    have ln := hk.ln
    refine ⟨L, q1, _, _, rfl, rfl, s2 _ _ hL1, h2, by rw [lm]; exact small (by show nms.length + 1 ≤ 100000; omega), fun R H3 s3 n3 h3 => ?_⟩
    have s13 := s1.trans (s2.trans s3)
    have B3 := hB.same s13
    have Rb : R ≠ b := ((hB.same s1).same s2).new n3
    have l0 : 0 < nms.length := by
      cases nms with
      | nil => exact absurd rfl ne
      | cons => exact Nat.succ_pos _
    refine ⟨_, rfl, _, rfl, L, _, rfl, .inl (SqL.of ((s2.trans s3) _ _ hL1)), ?_⟩
    refine ⟨_, rfl, b, 8, _, rfl, B3, by omega, by decide, by decide, fun y H4 y0 y1 B4 F4 => ⟨rfl, .inr ⟨_, rfl, ?_⟩⟩⟩
    obtain ⟨k, ek, k1⟩ : ∃ k : Nat, (if decide (V.int y = V.int 0) = true then (1 : Int) else 0) = (k : Int) ∧ k ≤ 1 := by
      generalize decide (V.int y = V.int 0) = b
      cases b
      · exact ⟨0, rfl, by decide⟩
      · exact ⟨1, rfl, by decide⟩
    rw [ek]
    refine ⟨_, _, rfl, rfl, b, nms.length + k, _, ?_, B4, by omega, by omega, by omega, fun u H5 u0 u1 B5 F5 => ?_⟩
    · rw [lm] <;> rfl
    obtain ⟨x, ex, px⟩ : ∃ x : Str, atI ((nms.map V.str ++ [V.str "qq"]) : List V) u = some (.str x) ∧ KNm nms x := by
      by_cases c : u.toNat < nms.length
      · refine ⟨nms[u.toNat], ?_, .inl (List.getElem_mem c)⟩
        have := atI_nat (xs := nms.map V.str ++ [V.str "qq"]) (j := u.toNat) (v := .str nms[u.toNat]) (by rw [List.getElem?_append_left (by rw [lm]; exact c), List.getElem?_map, List.getElem?_eq_getElem c] <;> rfl)
        rwa [show ((u.toNat : Nat) : Int) = u by omega] at this
      · have e : u.toNat = nms.length := by omega
        refine ⟨_, ?_, .inr rfl⟩
        have := atI_nat (xs := nms.map V.str ++ [V.str "qq"]) (j := u.toNat) (v := .str "qq") (by rw [List.getElem?_append_right (by rw [lm, e]; exact Nat.le_refl _), lm, e, Nat.sub_self] <;> rfl)
        rwa [show ((u.toNat : Nat) : Int) = u by omega] at this
    refine ⟨R, _, u, _, rfl, rfl, SqL.of (F5 _ _ Rb (F4 _ _ Rb h3)), ex, ?_⟩
    exact q x H5 px B5 (((Off.same s13).seq (.box B3 F4)).seq (.box B4 F5))

end
end KR
namespace KR
open PySem PySem.Spec PyProof.Rows L2
section
variable {P : Program} {w : World} {K : PySem.W.Frag} {mg : Str → Option Value} {base : Heap}
abbrev sevD : List Str := ["boil", "pour", "dip", "ladle", "skim", "stop", "start"]
def sp_kdeed (K : PySem.W.Frag) : Sp := fun vs H Q _ => ∃ (b : Addr) (n : Nat) (B : LKA) (nms : List Str) (S : KS) (j : Nat) (l : Addr) (ws : List Str), vs = [.ref b, .ref B.a, .ref l] ∧ BoxAt H b n ∧ n ≤ 700000000 ∧ LKAt K H B nms S ∧ nms ≠ [] ∧ KInv nms j S ∧ j ≤ 400 ∧ H l = some (.lst (ws.map V.str)) ∧ ws ≠ [] ∧ ws.length ≤ 60 ∧ (∀ w ∈ ws, w ∈ sevD) ∧ l ≠ b ∧ (∀ a, B.R nms a → a ≠ b) ∧ B.r ≠ b ∧
  ∀ d D H', BoxAt H' b (n + 40) → Off K (· = b) H H' → KDAt K H' d D → KDOk nms S D → Q (.ref d) H'
theorem ok_l_deed (T : All K mg) : FnOk P w K mg base CX0 4 T.f_l_deed T.fd_l_deed ["_law_box_here", "_law_state", "_law_some"] (sp_kdeed K) := by
  refine T.d_l_deed.fn.ok sc_l_deed (fun vs H Q E h => ?_) (fun cdv A outer s H vs Q E hr h => ?_)
  · obtain ⟨b, n, B, nms, S, j, l, ws, rfl, _⟩ := h
    rfl
  obtain ⟨b, n, Bd, nms, S, j, l, ws, rfl, hB, hn, hk, nn, inv, j9, hl, w1, w9, wall, lb, Rb, rb, q⟩ := h
  refine ⟨_, (pss_cons (ps_par3 (i := 3) (j := 4) (l := 5) (by rfl) sc_l_deed.nd rfl rfl rfl (by decide) (by decide) (by decide) rfl rfl rfl (pa_cons (pe_ix (ixL (K := K) rfl) (pv 2) (pe_call (ok_l_take T) (hr.mono (by decide)) (by rfl) T.d_l_take.mg T.d_l_take.fn.kp T.d_l_take.b .nil pass0 (pa_cons (pv 0) (pa_cons (pe_callB (lenQ (K := K) rfl) (by rfl) T.b_len PySem.boot_len (pa_cons (pv 2) pa_nil)) pa_nil))) (fun _ _ => rfl)) (pa_cons (pe_call (ok_l_name T) (hr.mono (by decide)) (by rfl) T.d_l_name.mg T.d_l_name.fn.kp T.d_l_name.b .nil pass0 (pa_cons (pv 0) (pa_cons (pv 1) pa_nil))) (pa_cons (pe_call (ok_l_name T) (hr.mono (by decide)) (by rfl) T.d_l_name.mg T.d_l_name.fn.kp T.d_l_name.b .nil pass0 (pa_cons (pv 0) (pa_cons (pv 1) pa_nil))) pa_nil))) (by rfl))
      (pss_cons (ps_if (pt_cmpR op_eq (pv 3) pe_str (nomark _)) (pss_one (ps_ret (pe_tupI (pa_cons (pv 3) (pa_cons (pe_ix (ixL (K := K) rfl) (pe_lstI (pa_cons pe_int (pa_cons pe_int (pa_cons (pe_call (ok_l_take T) (hr.mono (by decide)) (by rfl) T.d_l_take.mg T.d_l_take.fn.kp T.d_l_take.b .nil pass0 (pa_cons (pv 0) (pa_cons pe_int pa_nil))) (pa_cons (pe_call (ok_l_take T) (hr.mono (by decide)) (by rfl) T.d_l_take.mg T.d_l_take.fn.kp T.d_l_take.b .nil pass0 (pa_cons (pv 0) (pa_cons pe_int pa_nil))) pa_nil))))) (pe_call (ok_l_take T) (hr.mono (by decide)) (by rfl) T.d_l_take.mg T.d_l_take.fn.kp T.d_l_take.b .nil pass0 (pa_cons (pv 0) (pa_cons pe_int pa_nil))) (fun _ _ => rfl)) pa_nil))))) pss_nil)
      (pss_cons (ps_if (pt_cmpR op_eq (pv 3) pe_str (nomark _)) (pss_one (ps_ret (pe_tupI (pa_cons (pv 3) (pa_cons (pv 4) (pa_cons (pe_call (ok_l_juice T) hr (by rfl) T.d_l_juice.mg T.d_l_juice.fn.kp T.d_l_juice.b .nil pass0 (pa_cons (pv 0) (pa_cons (pe_dget2 (hu_of hr) (pe_dget (hu_of hr) (pv 1) pe_str (fun _ _ => rfl)) (pv 4) (pe_lstI (pa_cons pe_int (pa_cons pe_int (pa_cons (pe_tupI (pa_cons pe_int (pa_cons pe_int pa_nil))) pa_nil)))) (by exact ⟨rfl, rfl, rfl, rfl⟩)) pa_nil))) pa_nil)))))) pss_nil)
      (pss_cons (ps_if (pt_cmpR op_eq (pv 3) pe_str (nomark _)) (pss_one (ps_ret (pe_tupI (pa_cons (pv 3) (pa_cons (pv 4) (pa_cons (pe_call (ok_l_some_share T) hr (by rfl) T.d_l_some_share.mg T.d_l_some_share.fn.kp T.d_l_some_share.b .nil pass0 (pa_cons (pv 0) pa_nil)) pa_nil)))))) pss_nil)
      (pss_cons (ps_if (pt_cmpR op_eq (pv 3) pe_str (nomark _)) (pss_one (ps_ret (pe_tupI (pa_cons (pv 3) (pa_cons (pv 4) (pa_cons (pv 5) (pa_cons (pe_call (ok_l_some_share T) hr (by rfl) T.d_l_some_share.mg T.d_l_some_share.fn.kp T.d_l_some_share.b .nil pass0 (pa_cons (pv 0) pa_nil)) pa_nil))))))) pss_nil)
      (pss_cons (ps_if (pt_cmpR op_eq (pv 3) pe_str (nomark _)) (pss_cons (ps_set (i := 6) sc_l_deed.nd rfl (by first | exact Or.inl rfl | exact Or.inr rfl) (pe_ifExp (pt_cmpR op_eq (pe_call (ok_l_take T) (hr.mono (by decide)) (by rfl) T.d_l_take.mg T.d_l_take.fn.kp T.d_l_take.b .nil pass0 (pa_cons (pv 0) (pa_cons pe_int pa_nil))) pe_int (nomark _)) (pe_tupI (pa_cons pe_int (pa_cons pe_int pa_nil))) (pe_call (ok_l_some_share T) hr (by rfl) T.d_l_some_share.mg T.d_l_some_share.fn.kp T.d_l_some_share.b .nil pass0 (pa_cons (pv 0) pa_nil))))
      (pss_one (ps_ret (pe_tupI (pa_cons (pv 3) (pa_cons (pv 4) (pa_cons (pe_call (ok_l_some_share T) hr (by rfl) T.d_l_some_share.mg T.d_l_some_share.fn.kp T.d_l_some_share.b .nil pass0 (pa_cons (pv 0) pa_nil)) (pa_cons (pv 6) (pa_cons (pe_ix (ixL (K := K) rfl) (pe_lstI (pa_cons (pv 5) (pa_cons (pv 4) pa_nil))) (pe_call (ok_l_take T) (hr.mono (by decide)) (by rfl) T.d_l_take.mg T.d_l_take.fn.kp T.d_l_take.b .nil pass0 (pa_cons (pv 0) (pa_cons pe_int pa_nil))) (fun _ _ => rfl)) pa_nil))))))))) pss_nil)
      (pss_one (ps_ret (pe_tupI (pa_cons (pv 3) (pa_cons (pv 4) pa_nil))))))))))), ?_⟩
  have lm : (ws.map V.str).length = ws.length := List.length_map _
  have l0 : 0 < ws.length := by
    cases ws with
    | nil => exact absurd rfl w1
    | cons => exact Nat.succ_pos _
  have ns : ∀ {a c : Str}, a ≠ c → decide (V.str a = V.str c) = false := fun h => decide_eq_false fun z => h (V.str.inj z)
  have ys : ∀ {a : Str}, decide (V.str a = V.str a) = true := fun {a} => decide_eq_true rfl
  refine ⟨_, rfl, _, rfl, _, rfl, l, _, rfl, .inl (SqL.of hl), ?_⟩
  refine ⟨b, ws.length, n, ?_, hB, by omega, by omega, by omega, fun u H1 u0 u1 B1 F1 => ?_⟩
  · rw [lm] <;> rfl
  obtain ⟨w, ew, wm⟩ : ∃ w : Str, atI (ws.map V.str) u = some (.str w) ∧ w ∈ sevD := by
    have c : u.toNat < ws.length := by omega
    refine ⟨ws[u.toNat], ?_, wall _ (List.getElem_mem c)⟩
    have := atI_nat (xs := ws.map V.str) (j := u.toNat) (v := .str ws[u.toNat]) (by rw [List.getElem?_map, List.getElem?_eq_getElem c] <;> rfl)
    rwa [show ((u.toNat : Nat) : Int) = u by omega] at this
  have o1 : Off K (· = b) H H1 := .box hB F1
  have lk : ∀ {X : Hp}, Off K (· = b) H X → LKAt K X Bd nms S := fun o => hk.off o (fun a r e => Rb a r e) rb
  refine ⟨l, _, u, _, rfl, rfl, SqL.of (o1.lst lb hl), ew, ?_⟩
  refine ⟨_, rfl, _, rfl, b, n + 1, Bd, nms, S, rfl, B1, by omega, lk o1, nn, fun x H2 xk B2 o2 => ?_⟩
  refine ⟨_, rfl, _, rfl, b, n + 3, Bd, nms, S, rfl, B2, by omega, lk (o1.seq o2), nn, fun y H3 yk B3 o3 => ?_⟩
  have o03 : Off K (· = b) H H3 := (o1.seq o2).seq o3
  refine ⟨_, _, _, rfl, ?_⟩
  have seq3 : ∀ {X : Hp}, Off K (· = b) H3 X → Off K (· = b) H X := fun o => o03.seq o
  simp only [sevD, List.mem_cons, List.not_mem_nil, or_false] at wm
  rcases wm with rfl | rfl | rfl | rfl | rfl | rfl | rfl
  · refine ⟨_, rfl, rfl, _, rfl, ?_⟩
    rw [ys]
    refine iteT ⟨_, rfl, ?_⟩
    refine ⟨_, rfl, b, 9, n + 5, rfl, B3, by omega, by decide, by decide, fun y9 H4 y90 y91 B4 F4 => ⟨_, rfl, b, 41, n + 6, rfl, B4, by omega, by decide, by decide, fun y41 H5 y410 y411 B5 F5 => ⟨rfl, fun L H6 s6 n6 h6 => ?_⟩⟩⟩
    refine ⟨_, rfl, b, 4, n + 7, rfl, B5.same s6, by omega, by decide, by decide, fun z H7 z0 z1 B7 F7 => ?_⟩
    have h7 := F7 _ _ (B5.new n6) h6
    have o7 : Off K (· = b) H3 H7 := (((Off.box B3 F4).seq (.box B4 F5)).seq (.same s6)).seq (.box (B5.same s6) F7)
    obtain ⟨t, et, t9⟩ : ∃ t : Nat, atI [V.int 0, V.int 1, V.int y9, V.int y41] z = some (.int (t : Int)) ∧ t ≤ 1000 := by
      rcases (by omega : z = 0 ∨ z = 1 ∨ z = 2 ∨ z = 3) with rfl | rfl | rfl | rfl
      · exact ⟨0, at0, by decide⟩
      · exact ⟨1, at1, by decide⟩
      · exact ⟨y9.toNat, by rw [show ((y9.toNat : Nat) : Int) = y9 by omega]; exact at2, by omega⟩
      · exact ⟨y41.toNat, by rw [show ((y41.toNat : Nat) : Int) = y41 by omega]; exact at3, by omega⟩
    refine ⟨L, _, z, _, rfl, rfl, SqL.of h7, et, rfl, fun d H8 s8 n8 h8 => ?_⟩
    exact q d (.boil t) H8 ((B7.same s8).mono (by omega)) (seq3 (o7.seq (.same s8))) (SqT.of h8) t9
  · refine ⟨_, rfl, rfl, _, rfl, ?_⟩
    rw [ns (by decide +kernel)]
    refine iteF ⟨_, rfl, rfl, _, rfl, ?_⟩
    rw [ys]
    refine iteT ⟨_, rfl, _, rfl, _, rfl, ?_⟩
    have lk3 := lk o03
    obtain ⟨gv, ha3, _⟩ := lk3.a
    refine ⟨_, rfl, Bd.a, _, rfl, .inl ⟨_, kN "rows", .inl ha3, rfl, rfl⟩, Bd.r, rfl, .inl ⟨_, .inl lk3.r⟩, _, rfl, rfl, fun m0 H4 s4 n4 h4 => ⟨rfl, fun L H5 s5 n5 h5 => ?_⟩⟩
    have s45 := s4.trans s5
    have B5 := B3.same s45
    have Lb : L ≠ b := (B3.same s4).new n5
    have fin : ∀ {a : Addr} {s w u : Rat} {H6 : Hp}, BoxAt H6 b (n + 5 + 8) → Off K (· = b) H5 H6 → JuQ K H6 a s w → JuD u s w → (Dv (B60 * u.num.natAbs) w → Dv B60 w ∨ ∃ y ∈ nms, Dv (B60 * (S.st y).mark.num.natAbs) w) → ∀ d H7, Same H6 H7 → SqT K H7 d [.str "pour", .str x, .ref a] → Q (.ref d) H7 := fun {a s w u H6} B6 o6 hj jd wd d H7 s7 h7 =>
      q d (.pour x s w) H7 ((B6.same s7).mono (by omega)) (seq3 (((Off.same s45).seq o6).seq (.same s7))) ⟨a, h7, hj.same s7⟩ ⟨xk, jd.s0, jd.s9, jd.w0, jd.w9, pdv_of jd.sd (jd.wd.elim .inl wd)⟩
    by_cases c : x ∈ nms
    · refine ⟨some _, dget_n (.inl (s45 _ _ lk3.r)) c, ?_⟩
      obtain ⟨mv, sv, wv, k1, ⟨mk, rfl, k2⟩, _, _⟩ := (lk3.same s45).row x c
      obtain ⟨M, L', N, nk, md, okk, gd⟩ := inv.get j9
      have kx := okk x c
      refine ⟨b, n + 5, Bd.c x, _, (S.st x).room, mk, (S.st x).mark, rfl, B5, by omega, Rb _ (.inr ⟨x, c, rfl⟩), k1, at0, at2, k2, kx.mo, kx.r0, kx.r9, fun a s w H6 B6 o6 hj jd => ⟨rfl, fun d H7 s7 n7 h7 => ?_⟩⟩
      exact fin B6 o6 hj jd (fun z => .inr ⟨x, c, z⟩) d H7 s7 (SqT.of h7)
    · refine ⟨none, dget_n0 (.inl (s45 _ _ lk3.r)) c, ?_⟩
      have e1 : (1 / 2 : Rat).num = 1 := by decide +kernel
      have q1 : FrQ K H5 m0 (1 / 2 : Rat) := by
        show SqT K H5 m0 [.int (1 / 2 : Rat).num, .int ((1 / 2 : Rat).den : Int)]
        rw [e1, show (((1 / 2 : Rat).den : Nat) : Int) = 2 by decide +kernel]
        exact SqT.of (s5 _ _ h4)
      refine ⟨b, n + 5, L, _, 60, m0, 1 / 2, rfl, B5, by omega, Lb, h5, at0, at2, q1, ⟨by decide +kernel, by decide +kernel, by decide +kernel⟩, by decide, by decide, fun a s w H6 B6 o6 hj jd => ⟨rfl, fun d H7 s7 n7 h7 => ?_⟩⟩
      exact fin B6 o6 hj jd (fun z => .inl (by rw [e1] at z; exact z)) d H7 s7 (SqT.of h7)
  · refine ⟨_, rfl, rfl, _, rfl, ?_⟩
    rw [ns (by decide +kernel)]
    refine iteF ⟨_, rfl, rfl, _, rfl, ?_⟩
    rw [ns (by decide +kernel)]
    refine iteF ⟨_, rfl, rfl, _, rfl, ?_⟩
    rw [ys]
    refine iteT ⟨_, rfl, _, rfl, _, rfl, ?_⟩
    refine ⟨b, n + 5, rfl, B3, by omega, fun a t H4 B4 o4 ha sa => ⟨rfl, fun d H5 s5 n5 h5 => ?_⟩⟩
    exact q d (.dip x t) H5 ((B4.same s5).mono (by omega)) (seq3 (o4.seq (.same s5))) ⟨a, SqT.of h5, ha.same s5⟩ ⟨xk, sa⟩
  · refine ⟨_, rfl, rfl, _, rfl, ?_⟩
    rw [ns (by decide +kernel)]
    refine iteF ⟨_, rfl, rfl, _, rfl, ?_⟩
    rw [ns (by decide +kernel)]
    refine iteF ⟨_, rfl, rfl, _, rfl, ?_⟩
    rw [ns (by decide +kernel)]
    refine iteF ⟨_, rfl, rfl, _, rfl, ?_⟩
    rw [ys]
    refine iteT ⟨_, rfl, _, rfl, _, rfl, _, rfl, ?_⟩
    refine ⟨b, n + 5, rfl, B3, by omega, fun a t H4 B4 o4 ha sa => ⟨rfl, fun d H5 s5 n5 h5 => ?_⟩⟩
    exact q d (.ladle x y t) H5 ((B4.same s5).mono (by omega)) (seq3 (o4.seq (.same s5))) ⟨a, SqT.of h5, ha.same s5⟩ ⟨xk, yk, sa⟩
  · refine ⟨_, rfl, rfl, _, rfl, ?_⟩
    rw [ns (by decide +kernel)]
    refine iteF ⟨_, rfl, rfl, _, rfl, ?_⟩
    rw [ns (by decide +kernel)]
    refine iteF ⟨_, rfl, rfl, _, rfl, ?_⟩
    rw [ns (by decide +kernel)]
    refine iteF ⟨_, rfl, rfl, _, rfl, ?_⟩
    rw [ns (by decide +kernel)]
    refine iteF ⟨_, rfl, rfl, _, rfl, ?_⟩
    rw [ys]
    refine iteT ?_
    refine ⟨_, rfl, b, 4, n + 5, rfl, B3, by omega, by decide, by decide, fun z H4 z0 z1 B4 F4 => ?_⟩
    refine ⟨rfl, _, rfl, ?_⟩
    have fin : ∀ {g : Rat} {ga : Addr} {HX : Hp} {m : Nat}, BoxAt HX b m → m ≤ n + 10 → Off K (· = b) H3 HX → FrQ K HX ga g → SAny g → ∀ a t H6, BoxAt H6 b (m + 4) → Off K (· = b) HX H6 → FrQ K H6 a t → SAny t → ∀ L H7, Same H6 H7 → H6 L = none → H7 L = some (.lst [.str y, .str x]) → ∀ z H8, BoxAt H8 b (m + 5) → Fr b H7 H8 → 0 ≤ z → z < 2 → ∃ v, atI [V.str y, V.str x] z = some (.str v) ∧ H8 L = some (.lst [.str y, .str x]) ∧ ∀ d H9, Same H8 H9 → SqT K H9 d [.str "skim", .str x, .ref a, .ref ga, .str v] → Q (.ref d) H9 := fun {g ga HX m} BX mn oX hg sg a t H6 B6 o6 ha st L H7 s7 n7 h7 z H8 B8 F8 z0 z1 => by
      obtain ⟨v, ev, kv⟩ : ∃ v, atI [V.str y, V.str x] z = some (.str v) ∧ KNm nms v := by
        rcases (by omega : z = 0 ∨ z = 1) with rfl | rfl
        · exact ⟨y, at0, yk⟩
        · exact ⟨x, at1, xk⟩
      have o8 : Off K (· = b) HX H8 := (o6.seq (.same s7)).seq (.box (B6.same s7) F8)
      refine ⟨v, ev, F8 _ _ (B6.new n7) h7, fun d H9 s9 h9 => ?_⟩
      exact q d (.skim x t g v) H9 ((B8.same s9).mono (by omega)) (seq3 ((oX.seq o8).seq (.same s9))) ⟨a, ga, h9, (ha.tk (((Off.same (K := K) (R := (· = b)) s7).seq (.box (B6.same s7) F8)).tk)).same s9, (hg.tk o8.tk).same s9⟩ ⟨xk, kv, st, sg⟩
    have z0a : SAny ((0 : Int) : Rat) := ⟨by decide +kernel, by decide +kernel⟩
    by_cases c0 : V.int z = V.int 0
    · rw [decide_eq_true c0]
      refine iteT ⟨rfl, fun ga H5 s5 n5 h5 => ?_⟩
      have oX : Off K (· = b) H3 H5 := (Off.box B3 F4).seq (.same s5)
      refine ⟨_, rfl, _, rfl, _, rfl, b, n + 6, rfl, B4.same s5, by omega, fun a t H6 B6 o6 ha st => ?_⟩
      have f1 := fin (B4.same s5) (by omega) oX (FrQ.int (z := 0) h5) z0a a t H6 B6 o6 ha st
      refine ⟨_, rfl, _, rfl, _, rfl, rfl, fun L H7 s7 n7 h7 => ?_⟩
      refine ⟨_, rfl, b, 2, _, rfl, B6.same s7, by omega, by decide, by decide, fun z2 H8 z20 z21 B8 F8 => ?_⟩
      obtain ⟨v, ev, hL, g⟩ := f1 L H7 s7 n7 h7 z2 H8 B8 F8 z20 z21
      refine ⟨L, _, z2, _, rfl, rfl, SqL.of hL, ev, rfl, fun d H9 s9 n9 h9 => ?_⟩
      exact g d H9 s9 (SqT.of h9)
    · rw [decide_eq_false c0]
      refine iteF ⟨_, rfl, b, n + 6, rfl, B4, by omega, fun ga g H5 B5 o5 hg sg => ?_⟩
      have oX : Off K (· = b) H3 H5 := (Off.box B3 F4).seq o5
      refine ⟨_, rfl, _, rfl, _, rfl, b, n + 10, rfl, B5, by omega, fun a t H6 B6 o6 ha st => ?_⟩
      have f1 := fin B5 (by omega) oX hg sg a t H6 B6 o6 ha st
      refine ⟨_, rfl, _, rfl, _, rfl, rfl, fun L H7 s7 n7 h7 => ?_⟩
      refine ⟨_, rfl, b, 2, _, rfl, B6.same s7, by omega, by decide, by decide, fun z2 H8 z20 z21 B8 F8 => ?_⟩
      obtain ⟨v, ev, hL, g⟩ := f1 L H7 s7 n7 h7 z2 H8 B8 F8 z20 z21
      refine ⟨L, _, z2, _, rfl, rfl, SqL.of hL, ev, rfl, fun d H9 s9 n9 h9 => ?_⟩
      exact g d H9 s9 (SqT.of h9)
  · refine ⟨_, rfl, rfl, _, rfl, ?_⟩
    rw [ns (by decide +kernel)]
    refine iteF ⟨_, rfl, rfl, _, rfl, ?_⟩
    rw [ns (by decide +kernel)]
    refine iteF ⟨_, rfl, rfl, _, rfl, ?_⟩
    rw [ns (by decide +kernel)]
    refine iteF ⟨_, rfl, rfl, _, rfl, ?_⟩
    rw [ns (by decide +kernel)]
    refine iteF ⟨_, rfl, rfl, _, rfl, ?_⟩
    rw [ns (by decide +kernel)]
    refine iteF ⟨_, rfl, _, rfl, rfl, fun d H4 s4 n4 h4 => ?_⟩
    exact q d (.stop x) H4 ((B3.same s4).mono (by omega)) (seq3 (.same s4)) (SqT.of h4) xk
  · refine ⟨_, rfl, rfl, _, rfl, ?_⟩
    rw [ns (by decide +kernel)]
    refine iteF ⟨_, rfl, rfl, _, rfl, ?_⟩
    rw [ns (by decide +kernel)]
    refine iteF ⟨_, rfl, rfl, _, rfl, ?_⟩
    rw [ns (by decide +kernel)]
    refine iteF ⟨_, rfl, rfl, _, rfl, ?_⟩
    rw [ns (by decide +kernel)]
    refine iteF ⟨_, rfl, rfl, _, rfl, ?_⟩
    rw [ns (by decide +kernel)]
    refine iteF ⟨_, rfl, _, rfl, rfl, fun d H4 s4 n4 h4 => ?_⟩
    exact q d (.start x) H4 ((B3.same s4).mono (by omega)) (seq3 (.same s4)) (SqT.of h4) xk

end
end KR
namespace KR
open PySem PySem.Spec PyProof.Rows L2
section
variable {P : Program} {w : World} {K : PySem.W.Frag} {mg : Str → Option Value} {base : Heap}
/-- the kettles, the law's book, the drawn numbers, the words: that they stand apart -/
structure KSep (A : KAd) (B : LKA) (nms : List Str) (b l : Addr) : Prop where
  ab : ∀ a, KQ A nms a → ¬ LKQ B nms a ∧ a ≠ b ∧ a ≠ l
  bb : ∀ a, LKQ B nms a → a ≠ b ∧ a ≠ l
  lb : l ≠ b
structure KJ (K : PySem.W.Frag) (CO CK : Addr) (H : Hp) (A : KAd) (B : LKA) (nms : List Str) (b l : Addr) (ws : List Str) (n j : Nat) (S : KS) : Prop where
  k : KettlesAt K CO CK H A nms S
  lk : LKAt K H B nms S
  box : BoxAt H b n
  w : H l = some (.lst (ws.map V.str))
  inv : KInv nms j S
def sp_kstp (T : All K mg) : Sp := fun vs H Q _ => ∃ (b : Addr) (n : Nat) (A : KAd) (B : LKA) (nms : List Str) (S : KS) (j : Nat) (l : Addr) (ws : List Str), vs = [.ref b, .ref A.p, .ref B.a, .ref l] ∧ KJ K T.C_Kettles T.C_Kettle H A B nms b l ws n j S ∧ KSep A B nms b l ∧ n ≤ 700000000 ∧ nms ≠ [] ∧ nms.Nodup ∧ KLay nms ∧ j < 400 ∧ ws ≠ [] ∧ ws.length ≤ 60 ∧ (∀ w ∈ ws, w ∈ sevD) ∧
  ∀ S' H', KJ K T.C_Kettles T.C_Kettle H' A B nms b l ws (n + 40) (j + 1) S' → Off K (fun a => KQ A nms a ∨ LKQ B nms a ∨ a = b) H H' → Q (.bl true) H'
theorem ok_l_step (T : All K mg) : FnOk P w K mg base CX0 10 T.f_l_step T.fd_l_step ["_law_box_here", "_law_kettles", "_law_state", "_law_some"] (sp_kstp T) := by
  refine T.d_l_step.fn.ok sc_l_step (fun vs H Q E h => ?_) (fun cdv A outer s H vs Q E hr h => ?_)
  · obtain ⟨b, n, A, B, nms, S, j, l, ws, rfl, _⟩ := h
    rfl
  obtain ⟨b, n, Ad, Bd, nms, S, j, l, ws, rfl, jj, sp, hn, nn, nd, lay, j9, w1, w9, wall, q⟩ := h
  refine ⟨_, (pss_cons (ps_set (i := 4) sc_l_step.nd rfl (by first | exact Or.inl rfl | exact Or.inr rfl) (pe_call (ok_l_deed T) (hr.mono (by decide)) (by rfl) T.d_l_deed.mg T.d_l_deed.fn.kp T.d_l_deed.b .nil pass0 (pa_cons (pv 0) (pa_cons (pv 2) (pa_cons (pv 3) pa_nil)))))
      (pss_cons (ps_set (i := 5) sc_l_step.nd rfl (by first | exact Or.inl rfl | exact Or.inr rfl) (pe_call (ok_l_due T) (hr.mono (by decide)) (by rfl) T.d_l_due.mg T.d_l_due.fn.kp T.d_l_due.b .nil pass0 (pa_cons (pv 2) (pa_cons (pv 4) pa_nil))))
      (pss_one (ps_ret (pe_call (ok_l_same T) (hr.mono (by decide)) (by rfl) T.d_l_same.mg T.d_l_same.fn.kp T.d_l_same.b .nil pass0 (pa_cons (pe_call (ok_l_told T) hr (by rfl) T.d_l_told.mg T.d_l_told.fn.kp T.d_l_told.b .nil pass0 (pa_cons (pv 1) (pa_cons (pv 4) pa_nil))) (pa_cons (pv 5) pa_nil))))))), ?_⟩
  refine ⟨_, rfl, _, rfl, _, rfl, b, n, Bd, nms, S, j, l, ws, rfl, jj.box, hn, jj.lk, nn, jj.inv, by omega, jj.w, w1, w9, wall, sp.lb, fun a r => (sp.bb a (.inl r)).1, (sp.bb _ (.inr rfl)).1, fun d D H1 B1 o1 hd ok => ?_⟩
  have k1 : KettlesAt K T.C_Kettles T.C_Kettle H1 Ad nms S := jj.k.off o1 (fun a r e => (sp.ab a (.inl r)).2.1 e) (sp.ab _ (.inr rfl)).2.1
  have lk1 : LKAt K H1 Bd nms S := jj.lk.off o1 (fun a r e => (sp.bb a (.inl r)).1 e) (sp.bb _ (.inr rfl)).1
  have w1' := o1.lst sp.lb jj.w
  refine ⟨_, rfl, _, rfl, Bd, nms, S, j, d, D, rfl, lk1, nd, jj.inv, by omega, hd, ok, lay, fun v H2 lk2 dv2 o2 => ?_⟩
  have k2 : KettlesAt K T.C_Kettles T.C_Kettle H2 Ad nms S := k1.off o2 (fun a r e => (sp.ab a (.inl r)).1 (.inl e)) (fun e => (sp.ab _ (.inr rfl)).1 (.inl e))
  have B2 := o2.boxAt (fun r => (sp.bb b (.inl r)).1 rfl) B1
  have w2 := o2.lst (fun r => (sp.bb l (.inl r)).2 rfl) w1'
  refine ⟨_, rfl, _, rfl, Ad, nms, S, j, d, D, rfl, k2, nd, jj.inv, by omega, hd.tk o2.tk, ok, lay, fun u H3 k3 dv3 o3 => ?_⟩
  have lk3 : LKAt K H3 Bd nms (kstep nms D S).1 := lk2.off o3 (fun a r e => (sp.ab a (.inl e)).1 (.inl r)) (fun e => (sp.ab _ (.inl e)).1 (.inr rfl))
  have B3 := o3.boxAt (fun r => (sp.ab b (.inl r)).2.1 rfl) B2
  have w3 := o3.lst (fun r => (sp.ab l (.inl r)).2.2 rfl) w2
  refine ⟨_, rfl, _, _, _, rfl, dv3.dk, (dv2.tk o3.tk).dk, fun H4 s4 => ?_⟩
  have oo : Off K (fun a => KQ Ad nms a ∨ LKQ Bd nms a ∨ a = b) H H4 := (((o1.mono fun a e => .inr (.inr e)).seq (o2.mono fun a r => .inr (.inl (.inl r)))).seq (o3.mono fun a r => .inl (.inl r))).seq (.same s4)
  exact q _ H4 ⟨k3.same s4, lk3.same s4, B3.same s4, s4 _ _ w3, kstep_inv jj.inv (by omega) ok⟩ oo

end
end KR
namespace KR
open PySem PySem.Spec PyProof.Rows L2
section
variable {P : Program} {w : World} {K : PySem.W.Frag} {mg : Str → Option Value} {base : Heap}
def sp_p_law (K : PySem.W.Frag) (Ps : List Addr) : Sp := fun vs H Q _ => ∃ (a : Addr) (ns : List Int), vs = [.ref a] ∧ SqL K H a (ns.map V.int) ∧ ns.length ≤ 63 ∧ Tbs Ps H ∧ ∀ H', Q (.bl true) H'
theorem ok_p_law (T : All K mg) (B : Tabs T base) : FnG P w K mg base 12 T.f_p_law T.fd_p_law ["_law_script"] (sp_p_law K T.Ps) := by
  refine okG T.d_p_law.fn sc_p_law (fun vs H Q E h => ?_) (fun cdv A outer s H vs Q E hr hg h => ?_)
  · obtain ⟨a, ns, rfl, _⟩ := h
    rfl
  · obtain ⟨a, ns, rfl, hS, hlen, hT, q⟩ := h
    refine ⟨_, (pss_cons (ps_for PassesOwn.never rfl (pi_range1 (by rfl) T.b_range (pa_cons (pe_op op_add pe_int (pe_callB (call_min2 rfl) (by rfl) T.b_min (by decide +kernel) (pa_cons pe_int (pa_cons (pe_callB (lenQ (K := K) rfl) (by rfl) T.b_len PySem.boot_len (pa_cons (pv 0) pa_nil)) pa_nil)))) pa_nil)) (pg_name (i := 1) sc_p_law.nd rfl (by first | exact Or.inl rfl | exact Or.inr rfl)) (pss_cons (ps_set (i := 2) sc_p_law.nd rfl (by first | exact Or.inl rfl | exact Or.inr rfl) (pe_call (ok_l_box T) (hr.mono (by decide)) (by rfl) T.d_l_box.mg T.d_l_box.fn.kp T.d_l_box.b .nil pass0 (pa_cons (pv 0) (pa_cons (pv 1) pa_nil))))
      (pss_cons (ps_asg (pe_call (ok_l_begun T B) (hr.mono (by decide)) (by rfl) T.d_l_begun.mg T.d_l_begun.fn.kp T.d_l_begun.b .nil pass0 (pa_cons (pv 2) (pa_cons (pe_op op_add pe_int (pe_call (ok_l_take T) (hr.mono (by decide)) (by rfl) T.d_l_take.mg T.d_l_take.fn.kp T.d_l_take.b .nil pass0 (pa_cons (pv 2) (pa_cons pe_int pa_nil)))) pa_nil))) (pg_tupK (K := K) rfl rfl (pgs_cons (pg_name (i := 3) sc_p_law.nd rfl (by first | exact Or.inl rfl | exact Or.inr rfl)) (pgs_cons (pg_name (i := 4) sc_p_law.nd rfl (by first | exact Or.inl rfl | exact Or.inr rfl)) pgs_nil))))
      (pss_one (ps_for PassesOwn.never rfl (pi_range1 (by rfl) T.b_range (pa_cons (pe_ifExp (pt_cmpR op_eq (pe_call (ok_l_take T) (hr.mono (by decide)) (by rfl) T.d_l_take.mg T.d_l_take.fn.kp T.d_l_take.b .nil pass0 (pa_cons (pv 2) (pa_cons pe_int pa_nil))) pe_int (nomark _)) pe_int (pe_op op_add pe_int (pe_call (ok_l_take T) (hr.mono (by decide)) (by rfl) T.d_l_take.mg T.d_l_take.fn.kp T.d_l_take.b .nil pass0 (pa_cons (pv 2) (pa_cons pe_int pa_nil))))) pa_nil)) (pg_name (i := 5) sc_p_law.nd rfl (by first | exact Or.inl rfl | exact Or.inr rfl)) (pss_cons (ps_if (pt_not (pt_val (pe_call (ok_l_step T) (hr.mono (by decide)) (by rfl) T.d_l_step.mg T.d_l_step.fn.kp T.d_l_step.b .nil pass0 (pa_cons (pv 2) (pa_cons (pv 3) (pa_cons (pv 4) (pa_cons (pe_lstI (pa_cons pe_str (pa_cons pe_str (pa_cons pe_str (pa_cons pe_str (pa_cons pe_str (pa_cons pe_str pa_nil))))))) pa_nil))))))) (pss_one (ps_ret pe_bl)) pss_nil)
      (pss_one (ps_if (pt_not (pt_val (pe_call (ok_l_stands T) (hr.mono (by decide)) (by rfl) T.d_l_stands.mg T.d_l_stands.fn.kp T.d_l_stands.b .nil pass0 (pa_cons (pv 3) (pa_cons (pv 4) pa_nil))))) (pss_one (ps_ret pe_bl)) pss_nil))))))))
      (pss_one (ps_ret pe_bl))), ?_⟩
    obtain ⟨M, eM, M5⟩ : ∃ M : Nat, 1 + (if (ns.length : Int) < 3 then (ns.length : Int) else 3) = (M : Int) ∧ M ≤ 4 := by
      refine ⟨(1 + (if (ns.length : Int) < 3 then (ns.length : Int) else 3)).toNat, ?_, ?_⟩ <;> split <;> omega
    refine ⟨_, rfl, a, _, rfl, .inl hS, _, _, rfl, _, _, rfl, rfl, M, ?_, by omega, by omega, ?_⟩
    · rw [← eM, List.length_map] <;> rfl
    refine for_range (lo := 0) (n := M) (fun i σ H' => ∃ (x1 x2 x3 x4 x5 : Option V), σ = [some (.ref a), x1, x2, x3, x4, x5] ∧ SqL K H' a (ns.map V.int) ∧ Tbs T.Ps H') ⟨none, none, none, none, none, rfl, hS, hT⟩ ?_ ?_
    case' refine_2 =>
      rintro σ H' ⟨x1, x2, x3, x4, x5, rfl, _, _⟩
      exact q _
    rintro i σ H0 hi ⟨x1, x2, x3, x4, x5, rfl, hS0, hT0⟩
    refine ⟨_, rfl, _, rfl, a, ns, 0 + (i : Int), rfl, hS0, by omega, by omega, fun b H1 s1 n1 B1 => ?_⟩
    refine ⟨_, rfl, _, rfl, b, 5, _, rfl, B1, by omega, by decide, by decide, fun y H2 y0 y1 B2 F2 => ⟨_, _, rfl, rfl, ?_⟩⟩
    have o2 : Off K (fun _ => False) H0 H2 := (Off.refl (K := K) (R := fun _ => False)).trans (((Off.same (K := K) (R := (· = b)) s1).seq (.box B1 F2))) fun a z => .inr (.of (by rw [z]; exact n1))
    refine ⟨b, 1, (1 + y).toNat, ?_, by omega, by omega, B2, by decide, o2.tbs hT0, fun ta A Bk nms S H3 ht hk hl inv nd len lay nk nl B3 o3 => ?_⟩
    · show [V.ref b, V.int (1 + y)] = [V.ref b, V.int (((1 + y).toNat : Nat) : Int)]
      rw [show (((1 + y).toNat : Nat) : Int) = 1 + y by omega]
    refine ⟨ta, _, rfl, ht, rfl, _, _, rfl, _, _, rfl, rfl, ?_⟩
    obtain ⟨bx, hbx⟩ := box_lst B2
    have ab : ∀ c, KQ A nms c → ¬ LKQ Bk nms c ∧ c ≠ b := fun c r => ⟨(nk c r).1, (nk c r).2.ne hbx .lst⟩
    have bb : ∀ c, LKQ Bk nms c → c ≠ b := fun c r => (nl c r).ne hbx .lst
    have wl : ∀ w ∈ (["pour", "pour", "boil", "skim", "skim", "skim"] : List Str), w ∈ sevD := by decide +kernel
    have w0 : (["pour", "pour", "boil", "skim", "skim", "skim"] : List Str) ≠ [] := nofun
    have w9 : (["pour", "pour", "boil", "skim", "skim", "skim"] : List Str).length ≤ 60 := by show 6 ≤ 60; decide
    have nw0 : ∀ c, KQ A nms c ∨ LKQ Bk nms c ∨ c = b → Nw H0 c := fun c r => by
      rcases r with r | r | r
      · exact Nw.back (R := fun _ => False) (K := K) o2 id (nk c r).2
      · exact Nw.back (R := fun _ => False) (K := K) o2 id (nl c r)
      · rw [r]; exact .of n1
    have o4 : Off K (fun _ => False) H0 H3 := o2.trans o3 fun a z => .inr (.of (by rw [z]; exact n1))
    have tr : A.t ≠ Bk.r := fun e => (nk A.t (.inr rfl)).1 (.inr e)
    have nn : nms ≠ [] := fun e => by rw [e] at len; simp at len; omega
    refine ⟨_, rfl, b, 3, _, rfl, B3, by omega, by decide, by decide, fun y2 H5 y20 y21 B5 F5 => ?_⟩
    have o45 : Off K (· = b) H3 H5 := .box B3 F5
    refine ⟨rfl, _, rfl, ?_⟩
    by_cases c0 : V.int y2 = V.int 0
    case' pos =>
      rw [decide_eq_true c0]
      refine iteT ?_
      obtain ⟨N, eN, N9⟩ : ∃ N : Nat, (40 : Int) = (N : Int) ∧ N ≤ 40 := ⟨40, rfl, by decide⟩
      obtain ⟨HX, eX⟩ : ∃ HX, HX = H5 := ⟨_, rfl⟩
      subst eX
      obtain ⟨m, m9, BX⟩ : ∃ m, m ≤ 80 ∧ BoxAt HX b m := ⟨_, by decide, B5⟩
      have oX : Off K (· = b) H3 HX := o45
      refine ⟨(N : Int), by rw [← eN], by omega, by omega, ?_⟩
    case' neg =>
      rw [decide_eq_false c0]
      refine iteF ⟨_, rfl, b, 20, _, rfl, B5, by omega, by decide, by decide, fun y3 H6 y30 y31 B6 F6 => ⟨_, _, rfl, rfl, ?_⟩⟩
      obtain ⟨N, eN, N9⟩ : ∃ N : Nat, 1 + y3 = (N : Int) ∧ N ≤ 40 := ⟨(1 + y3).toNat, by omega, by omega⟩
      have oX' : Off K (· = b) H3 H6 := o45.seq (.box B5 F6)
      obtain ⟨HX, eX⟩ : ∃ HX, HX = H6 := ⟨_, rfl⟩
      subst eX
      obtain ⟨m, m9, BX⟩ : ∃ m, m ≤ 80 ∧ BoxAt HX b m := ⟨_, by decide, B6⟩
      have oX : Off K (· = b) H3 HX := oX'
      refine ⟨(N : Int), by rw [← eN], by omega, by omega, ?_⟩
    all_goals
      refine for_range (lo := 0) (n := N) (fun t σ H' => ∃ (x7 : Option V) (S : KS), σ = [some (.ref a), some (.int (0 + (i : Int))), some (.ref b), some (.ref A.p), some (.ref Bk.a), x7] ∧ KettlesAt K T.C_Kettles T.C_Kettle H' A nms S ∧ LKAt K H' Bk nms S ∧ BoxAt H' b (m + 40 * t) ∧ KInv nms t S ∧ Off K (fun _ => False) H0 H') ⟨_, S, rfl, hk.off oX (fun c r e => (ab c (.inl r)).2 e) (ab _ (.inr rfl)).2, hl.off oX (fun c r e => bb c (.inl r) e) (bb _ (.inr rfl)), BX, inv, o4.trans oX fun a z => .inr (.of (by rw [z]; exact n1))⟩ ?_ ?_
      case' refine_2 =>
        rintro σ H' ⟨x7, S', rfl, _, _, _, _, oo⟩
        exact ⟨_, _, _, _, _, rfl, oo.seqL id hS0, oo.tbs hT0⟩
      rintro t σ H' ht ⟨x7, S', rfl, hk', hl', B', inv', oo⟩
      refine ⟨_, rfl, _, rfl, _, rfl, rfl, fun l H4 s4 n4 h4 => ?_⟩
      have h4' : H4 l = some (.lst ((["pour", "pour", "boil", "skim", "skim", "skim"] : List Str).map V.str)) := h4
      have sep : KSep A Bk nms b l := ⟨fun c r => ⟨(ab c r).1, (ab c r).2, fun e => by
        obtain ⟨u, hu, _⟩ := (tKe K T.C_Kettles T.C_Kettle A nms S').ex (H := H') (a := c) hk' r
        rw [e, n4] at hu
        cases hu⟩, fun c r => ⟨bb c r, fun e => by
        obtain ⟨u, hu, _⟩ := (tLk K Bk nms S').ex (H := H') (a := c) hl' r
        rw [e, n4] at hu
        cases hu⟩, B'.new n4⟩
      refine ⟨b, m + 40 * t, A, Bk, nms, S', t, l, ["pour", "pour", "boil", "skim", "skim", "skim"], rfl, ⟨hk'.same s4, hl'.same s4, B'.same s4, h4', inv'⟩, sep, by omega, nn, nd, lay, by omega, w0, w9, wl, fun S2 H7 jj2 o7 => ⟨_, rfl, ?_⟩⟩
      refine iteF ?_
      refine ⟨_, rfl, _, rfl, A, Bk, nms, S2, t + 1, rfl, jj2.k, jj2.lk, jj2.inv, by omega, lay, tr, fun H8 s8 => ⟨_, rfl, ?_⟩⟩
      refine iteF ?_
      exact ⟨_, S2, rfl, jj2.k.same s8, jj2.lk.same s8, (jj2.box.same s8).mono (by omega), jj2.inv, ((oo.seq (.same s4)).trans o7 fun c r => .inr (nw0 c r)).seq (.same s8)⟩

end
end KR
namespace KR
open PySem PySem.Spec PyProof.Rows L2
end KR
theorem PySem.W.Fast.tw15259365127530535308 : True := trivial
theorem PySem.W.Fast.tw17056850586706353429 : True := trivial
theorem PySem.W.Fast.tw16027382229438608384 : True := trivial
theorem PySem.W.Fast.tw7517874764563463168 : True := trivial
theorem PySem.W.Fast.tw4175983321740566528 : True := trivial
theorem PySem.W.Fast.tw9278988844011678720 : True := trivial
theorem PySem.W.Fast.tw10171497353222397984 : True := trivial
theorem PySem.W.Fast.tw13866621815095408672 : True := trivial
theorem PySem.W.Fast.tw8227921400990702656 : True := trivial
theorem PySem.W.Fast.tw2779192869467190336 : True := trivial
theorem PySem.W.Fast.tw4178045391487574176 : True := trivial
theorem PySem.W.Fast.tw12396838743421299872 : True := trivial
theorem PySem.W.Fast.tw41098251361923232 : True := trivial
theorem PySem.W.Fast.tw6149971151115474080 : True := trivial
theorem PySem.W.Fast.tw9020235516369687744 : True := trivial
theorem PySem.W.Fast.tw13989565726227099840 : True := trivial
theorem PySem.W.Fast.tw6997912357231347936 : True := trivial
theorem PySem.W.Fast.tw18349201720579160288 : True := trivial
theorem PySem.W.Fast.tw2006181531223811328 : True := trivial
theorem PySem.W.Fast.tw8938102496098798880 : True := trivial
theorem PySem.W.Fast.tw13464210891927058784 : True := trivial
theorem PySem.W.Fast.tw2849226403944318336 : True := trivial
theorem PySem.W.Fast.tw17766711078880051680 : True := trivial
theorem PySem.W.Fast.tw9843550072180933120 : True := trivial
theorem PySem.W.Fast.tw816288492160749056 : True := trivial
theorem PySem.W.Fast.tw17551278000494463520 : True := trivial
theorem PySem.W.Fast.tw1800549870691253792 : True := trivial
theorem PySem.W.Fast.tw4844789061417110080 : True := trivial
theorem PySem.W.Fast.tw1456599027140018752 : True := trivial
theorem PySem.W.Fast.tw16247326050510705248 : True := trivial
theorem PySem.W.Fast.tw17617520163945720416 : True := trivial
theorem PySem.W.Fast.tw15327064400579772000 : True := trivial
theorem PySem.W.Fast.tw796514873906161248 : True := trivial
theorem PySem.W.Fast.tw4737614032643227232 : True := trivial
theorem PySem.W.Fast.tw16915604480074089088 : True := trivial
theorem PySem.W.Fast.tw6137833734690150016 : True := trivial
theorem PySem.W.Fast.tw11294665768146155136 : True := trivial
theorem PySem.W.Fast.tw418398307442106048 : True := trivial
theorem PySem.W.Fast.tw7013901682074193632 : True := trivial
theorem PySem.W.Fast.tw18130795418472219392 : True := trivial
theorem PySem.W.Fast.tw1675140062294199104 : True := trivial
theorem PySem.W.Fast.tw1761273899649848160 : True := trivial
theorem PySem.W.Fast.tw2649520629184878432 : True := trivial
theorem PySem.W.Fast.tw18195502277436829536 : True := trivial
theorem PySem.W.Fast.tw426061916792193920 : True := trivial
theorem PySem.W.Fast.tw1413497400718186368 : True := trivial
theorem PySem.W.Fast.tw8201218974567772064 : True := trivial
theorem PySem.W.Fast.tw8777896799567069120 : True := trivial
theorem PySem.W.Fast.tw15555853135867220960 : True := trivial
theorem PySem.W.Fast.tw4038200223610611680 : True := trivial
theorem PySem.W.Fast.tw8728980214575937537 : True := trivial
theorem PySem.W.Fast.tw13196958325956667393 : True := trivial
theorem PySem.W.Fast.tw1852880689391375393 : True := trivial
theorem PySem.W.Fast.tw6803239654528397345 : True := trivial
theorem PySem.W.Fast.tw342818505810310177 : True := trivial
theorem PySem.W.Fast.tw11568918568698117153 : True := trivial
theorem PySem.W.Fast.tw12962335480630509633 : True := trivial
theorem PySem.W.Fast.tw1193488877304732801 : True := trivial
theorem PySem.W.Fast.tw5988129918854817985 : True := trivial
theorem PySem.W.Fast.tw5985902417537427713 : True := trivial
theorem PySem.W.Fast.tw16724603914002999585 : True := trivial
theorem PySem.W.Fast.tw5518103808453358913 : True := trivial
theorem PySem.W.Fast.tw3000146090449586497 : True := trivial
theorem PySem.W.Fast.tw8632370714874303809 : True := trivial
theorem PySem.W.Fast.tw11291365957067382145 : True := trivial
theorem PySem.W.Fast.tw13709685947434293633 : True := trivial
theorem PySem.W.Fast.tw2853635004252514689 : True := trivial
theorem PySem.W.Fast.tw5438182120123102625 : True := trivial
theorem PySem.W.Fast.tw11540656520186898881 : True := trivial
theorem PySem.W.Fast.tw7295054299305143745 : True := trivial
theorem PySem.W.Fast.tw1759543577407081953 : True := trivial
theorem PySem.W.Fast.tw2336642080485725665 : True := trivial
theorem PySem.W.Fast.tw7891537593179853313 : True := trivial
theorem PySem.W.Fast.tw2731134718340495873 : True := trivial
theorem PySem.W.Fast.tw16462451940906531329 : True := trivial
theorem PySem.W.Fast.tw3724920966846417441 : True := trivial
theorem PySem.W.Fast.tw2601773258852701729 : True := trivial
theorem PySem.W.Fast.tw7311804019336421985 : True := trivial
theorem PySem.W.Fast.tw4079757647399212673 : True := trivial
theorem PySem.W.Fast.tw11179999700133456609 : True := trivial
theorem PySem.W.Fast.tw6282571698542590689 : True := trivial
theorem PySem.W.Fast.tw6087167729012441889 : True := trivial
theorem PySem.W.Fast.tw3087297845769345825 : True := trivial
theorem PySem.W.Fast.tw4467939764361957185 : True := trivial
theorem PySem.W.Fast.tw9438822917708897121 : True := trivial
theorem PySem.W.Fast.tw13173279999512420225 : True := trivial
theorem PySem.W.Fast.tw8670591754125083553 : True := trivial
theorem PySem.W.Fast.tw17648955339039718369 : True := trivial
theorem PySem.W.Fast.tw2006735598538711009 : True := trivial
theorem PySem.W.Fast.tw17138025759793051617 : True := trivial
theorem PySem.W.Fast.tw2508431247634282530 : True := trivial
theorem PySem.W.Fast.tw9713552132337030178 : True := trivial
theorem PySem.W.Fast.tw7803250592292006946 : True := trivial
theorem PySem.W.Fast.tw7522148517090052194 : True := trivial
theorem PySem.W.Fast.tw7174798727330148514 : True := trivial
theorem PySem.W.Fast.tw8610216521399980194 : True := trivial
theorem PySem.W.Fast.tw646857465925786850 : True := trivial
theorem PySem.W.Fast.tw10309435020320111874 : True := trivial
theorem PySem.W.Fast.tw11692134245466874146 : True := trivial
theorem PySem.W.Fast.tw12773889534632635682 : True := trivial
theorem PySem.W.Fast.tw14137993056504665378 : True := trivial
theorem PySem.W.Fast.tw12728685914020755778 : True := trivial
theorem PySem.W.Fast.tw8318191251776120194 : True := trivial
theorem PySem.W.Fast.tw5145492007522322818 : True := trivial
theorem PySem.W.Fast.tw11852007130835541410 : True := trivial
theorem PySem.W.Fast.tw16356277701897871810 : True := trivial
theorem PySem.W.Fast.tw10370738978911820290 : True := trivial
theorem PySem.W.Fast.tw10084607273591352834 : True := trivial
theorem PySem.W.Fast.tw11742645677742554626 : True := trivial
theorem PySem.W.Fast.tw3925104236803365410 : True := trivial
theorem PySem.W.Fast.tw12376333324683517506 : True := trivial
theorem PySem.W.Fast.tw10480625066964064866 : True := trivial
theorem PySem.W.Fast.tw10025989214468891234 : True := trivial
theorem PySem.W.Fast.tw9404448441047971458 : True := trivial
theorem PySem.W.Fast.tw9886993986982842018 : True := trivial
theorem PySem.W.Fast.tw3392511306744720034 : True := trivial
theorem PySem.W.Fast.tw16327552041346070178 : True := trivial
theorem PySem.W.Fast.tw2509167075770339042 : True := trivial
theorem PySem.W.Fast.tw287747946724422370 : True := trivial
theorem PySem.W.Fast.tw7996054624061097730 : True := trivial
theorem PySem.W.Fast.tw16250367496953763586 : True := trivial
theorem PySem.W.Fast.tw2118216408755020546 : True := trivial
theorem PySem.W.Fast.tw3148208451018466082 : True := trivial
theorem PySem.W.Fast.tw9771553653776234274 : True := trivial
theorem PySem.W.Fast.tw16990336302480047938 : True := trivial
theorem PySem.W.Fast.tw6201435333256730434 : True := trivial
theorem PySem.W.Fast.tw15362083481340441474 : True := trivial
theorem PySem.W.Fast.tw11862966644086997922 : True := trivial
theorem PySem.W.Fast.tw7555932593535176610 : True := trivial
theorem PySem.W.Fast.tw3475443679290892226 : True := trivial
theorem PySem.W.Fast.tw6429230899238539267 : True := trivial
theorem PySem.W.Fast.tw16867418653327954947 : True := trivial
theorem PySem.W.Fast.tw18269248402973587459 : True := trivial
theorem PySem.W.Fast.tw17380600558765309987 : True := trivial
theorem PySem.W.Fast.tw2740158632933557315 : True := trivial
theorem PySem.W.Fast.tw10319705332612533315 : True := trivial
theorem PySem.W.Fast.tw15621410499751612483 : True := trivial
theorem PySem.W.Fast.tw14518540419958449219 : True := trivial
theorem PySem.W.Fast.tw15645797786888154179 : True := trivial
theorem PySem.W.Fast.tw15887503008790461507 : True := trivial
theorem PySem.W.Fast.tw8752664197470414915 : True := trivial
theorem PySem.W.Fast.tw14292789093213718691 : True := trivial
theorem PySem.W.Fast.tw16148423055524790467 : True := trivial
theorem PySem.W.Fast.tw9736874804798890179 : True := trivial
theorem PySem.W.Fast.tw7291392687539095779 : True := trivial
theorem PySem.W.Fast.tw1435569288560424163 : True := trivial
theorem PySem.W.Fast.tw1852662154058931491 : True := trivial
theorem PySem.W.Fast.tw12591663478767696163 : True := trivial
theorem PySem.W.Fast.tw6386583348540055875 : True := trivial
theorem PySem.W.Fast.tw11439999341185069379 : True := trivial
theorem PySem.W.Fast.tw11132304531825587523 : True := trivial
theorem PySem.W.Fast.tw6439398519689546083 : True := trivial
theorem PySem.W.Fast.tw8653633965471208835 : True := trivial
theorem PySem.W.Fast.tw758103774897554819 : True := trivial
theorem PySem.W.Fast.tw6366298108064574883 : True := trivial
theorem PySem.W.Fast.tw13092457151779775939 : True := trivial
theorem PySem.W.Fast.tw8713415174141618627 : True := trivial
theorem PySem.W.Fast.tw12049151511481083331 : True := trivial
theorem PySem.W.Fast.tw18114382605042700803 : True := trivial
theorem PySem.W.Fast.tw4215754238548005379 : True := trivial
theorem PySem.W.Fast.tw7640181678674439683 : True := trivial
theorem PySem.W.Fast.tw8630606969647036931 : True := trivial
theorem PySem.W.Fast.tw17236582956140560931 : True := trivial
theorem PySem.W.Fast.tw11348728878720409123 : True := trivial
theorem PySem.W.Fast.tw13080157890063354467 : True := trivial
theorem PySem.W.Fast.tw16462597889890514531 : True := trivial
theorem PySem.W.Fast.tw17774432647438041731 : True := trivial
theorem PySem.W.Fast.tw560193579221190307 : True := trivial
theorem PySem.W.Fast.tw11354425309086751395 : True := trivial
theorem PySem.W.Fast.tw2214982088048188067 : True := trivial
theorem PySem.W.Fast.tw10577386901029495459 : True := trivial
theorem PySem.W.Fast.tw9364287130358846147 : True := trivial
theorem PySem.W.Fast.tw8090787866725433027 : True := trivial
theorem PySem.W.Fast.tw8569037815220294339 : True := trivial
theorem PySem.W.Fast.tw17507422728151523011 : True := trivial
theorem PySem.W.Fast.tw16152119355623533251 : True := trivial
theorem PySem.W.Fast.tw1382481813523701475 : True := trivial
theorem PySem.W.Fast.tw16712374252768338659 : True := trivial
theorem PySem.W.Fast.tw1958025283104746211 : True := trivial
theorem PySem.W.Fast.tw11782054865588914947 : True := trivial
theorem PySem.W.Fast.tw11871601158944888579 : True := trivial
theorem PySem.W.Fast.tw3601153332707137315 : True := trivial
theorem PySem.W.Fast.tw17325565060225719075 : True := trivial
theorem PySem.W.Fast.tw6056917361321896739 : True := trivial
theorem PySem.W.Fast.tw9903181307991536451 : True := trivial
theorem PySem.W.Fast.tw161383052526043011 : True := trivial
theorem PySem.W.Fast.tw14867226166429367203 : True := trivial
theorem PySem.W.Fast.tw17354646907416689571 : True := trivial
theorem PySem.W.Fast.tw17317146901789816803 : True := trivial
theorem PySem.W.Fast.tw15672662221619597316 : True := trivial
theorem PySem.W.Fast.tw2987485823271096356 : True := trivial
theorem PySem.W.Fast.tw16666022071464890436 : True := trivial
theorem PySem.W.Fast.tw1699591604338576452 : True := trivial
theorem PySem.W.Fast.tw13645777395995245668 : True := trivial
theorem PySem.W.Fast.tw18242504889064493188 : True := trivial
theorem PySem.W.Fast.tw4019392641891227780 : True := trivial
theorem PySem.W.Fast.tw18115458824621950116 : True := trivial
theorem PySem.W.Fast.tw11671959958368775396 : True := trivial
theorem PySem.W.Fast.tw18154386400023126276 : True := trivial
theorem PySem.W.Fast.tw15084585036244428036 : True := trivial
theorem PySem.W.Fast.tw7872874590487818500 : True := trivial
theorem PySem.W.Fast.tw5188076734265351460 : True := trivial
theorem PySem.W.Fast.tw18130011253138351428 : True := trivial
theorem PySem.W.Fast.tw16919314188748104036 : True := trivial
theorem PySem.W.Fast.tw13892790769799556452 : True := trivial
theorem PySem.W.Fast.tw943757184924783012 : True := trivial
theorem PySem.W.Fast.tw15522705996917706180 : True := trivial
theorem PySem.W.Fast.tw8126311803743269316 : True := trivial
theorem PySem.W.Fast.tw14869067927167123940 : True := trivial
theorem PySem.W.Fast.tw9892549090201856484 : True := trivial
theorem PySem.W.Fast.tw16564353014307645924 : True := trivial
theorem PySem.W.Fast.tw2796722193325923876 : True := trivial
theorem PySem.W.Fast.tw4679169016515701284 : True := trivial
theorem PySem.W.Fast.tw9361811210942824996 : True := trivial
theorem PySem.W.Fast.tw2480143882983891492 : True := trivial
theorem PySem.W.Fast.tw8246352278674080324 : True := trivial
theorem PySem.W.Fast.tw3283150572499655268 : True := trivial
theorem PySem.W.Fast.tw4439300154590688868 : True := trivial
theorem PySem.W.Fast.tw724649122774214276 : True := trivial
theorem PySem.W.Fast.tw17088936130439256772 : True := trivial
theorem PySem.W.Fast.tw8963367542293628644 : True := trivial
theorem PySem.W.Fast.tw1169663370665340644 : True := trivial
theorem PySem.W.Fast.tw12993551627913727748 : True := trivial
theorem PySem.W.Fast.tw5665690236491328260 : True := trivial
theorem PySem.W.Fast.tw4299902522271295268 : True := trivial
theorem PySem.W.Fast.tw2300617134327294788 : True := trivial
theorem PySem.W.Fast.tw12999696515818953572 : True := trivial
theorem PySem.W.Fast.tw15975844427387109252 : True := trivial
theorem PySem.W.Fast.tw746301953213213636 : True := trivial
theorem PySem.W.Fast.tw12137774246578583492 : True := trivial
theorem PySem.W.Fast.tw6558498190142576612 : True := trivial
theorem PySem.W.Fast.tw1356432390721286116 : True := trivial
theorem PySem.W.Fast.tw2886029426106654692 : True := trivial
theorem PySem.W.Fast.tw10394037565932464133 : True := trivial
theorem PySem.W.Fast.tw7084421495709861925 : True := trivial
theorem PySem.W.Fast.tw13757042030281016357 : True := trivial
theorem PySem.W.Fast.tw7655854543009105957 : True := trivial
theorem PySem.W.Fast.tw14394388235620413477 : True := trivial
theorem PySem.W.Fast.tw17834376303928068165 : True := trivial
theorem PySem.W.Fast.tw11753412530284623941 : True := trivial
theorem PySem.W.Fast.tw11721050998660074597 : True := trivial
theorem PySem.W.Fast.tw1336013604627421285 : True := trivial
theorem PySem.W.Fast.tw178789058719154341 : True := trivial
theorem PySem.W.Fast.tw6167655363043279013 : True := trivial
theorem PySem.W.Fast.tw6782281307453056165 : True := trivial
theorem PySem.W.Fast.tw12982793102575185125 : True := trivial
theorem PySem.W.Fast.tw9563939415881839845 : True := trivial
theorem PySem.W.Fast.tw2899229136947004709 : True := trivial
theorem PySem.W.Fast.tw2887109073965925701 : True := trivial
theorem PySem.W.Fast.tw12951238341920362853 : True := trivial
theorem PySem.W.Fast.tw16080580855935452517 : True := trivial
theorem PySem.W.Fast.tw1104962274852112805 : True := trivial
theorem PySem.W.Fast.tw3831291854365650373 : True := trivial
theorem PySem.W.Fast.tw12369974074081673701 : True := trivial
theorem PySem.W.Fast.tw6356735999495900645 : True := trivial
theorem PySem.W.Fast.tw6327797924245214725 : True := trivial
theorem PySem.W.Fast.tw3408149769997467141 : True := trivial
theorem PySem.W.Fast.tw14117973741457613381 : True := trivial
theorem PySem.W.Fast.tw10017838993881850437 : True := trivial
theorem PySem.W.Fast.tw3197317893811930725 : True := trivial
theorem PySem.W.Fast.tw2923886863804120677 : True := trivial
theorem PySem.W.Fast.tw9814525768851817157 : True := trivial
theorem PySem.W.Fast.tw14092999073720475333 : True := trivial
theorem PySem.W.Fast.tw16225781178833811173 : True := trivial
theorem PySem.W.Fast.tw5362405267227047653 : True := trivial
theorem PySem.W.Fast.tw17396074510194068229 : True := trivial
theorem PySem.W.Fast.tw11849806661105118981 : True := trivial
theorem PySem.W.Fast.tw8368536956934062885 : True := trivial
theorem PySem.W.Fast.tw6844897137063072581 : True := trivial
theorem PySem.W.Fast.tw3895187945082085189 : True := trivial
theorem PySem.W.Fast.tw318762465302432645 : True := trivial
theorem PySem.W.Fast.tw15804464416783519621 : True := trivial
theorem PySem.W.Fast.tw11951358030702050181 : True := trivial
theorem PySem.W.Fast.tw16602300792739504069 : True := trivial
theorem PySem.W.Fast.tw11226015490438833125 : True := trivial
theorem PySem.W.Fast.tw6192809549322678245 : True := trivial
theorem PySem.W.Fast.tw12383025137440784357 : True := trivial
theorem PySem.W.Fast.tw4039706778761129990 : True := trivial
theorem PySem.W.Fast.tw3798175844862763078 : True := trivial
theorem PySem.W.Fast.tw13140422793345502342 : True := trivial
theorem PySem.W.Fast.tw6517291770509104262 : True := trivial
theorem PySem.W.Fast.tw16106984284262210694 : True := trivial
theorem PySem.W.Fast.tw17376716570181302406 : True := trivial
theorem PySem.W.Fast.tw17651051474891770022 : True := trivial
theorem PySem.W.Fast.tw7275559079052119206 : True := trivial
theorem PySem.W.Fast.tw3464684444149073062 : True := trivial
theorem PySem.W.Fast.tw5061465685837862054 : True := trivial
theorem PySem.W.Fast.tw18127422496145476806 : True := trivial
theorem PySem.W.Fast.tw7361761668354557126 : True := trivial
theorem PySem.W.Fast.tw9315430545590767814 : True := trivial
theorem PySem.W.Fast.tw15348255746946435334 : True := trivial
theorem PySem.W.Fast.tw7001629720947440934 : True := trivial
theorem PySem.W.Fast.tw3426135729737131302 : True := trivial
theorem PySem.W.Fast.tw11068565315734366502 : True := trivial
theorem PySem.W.Fast.tw11701717149096420678 : True := trivial
theorem PySem.W.Fast.tw3698028245368812870 : True := trivial
theorem PySem.W.Fast.tw2048096599457092966 : True := trivial
theorem PySem.W.Fast.tw15034390776631794086 : True := trivial
theorem PySem.W.Fast.tw12748342679110206886 : True := trivial
theorem PySem.W.Fast.tw5046444543344332198 : True := trivial
theorem PySem.W.Fast.tw12416777273196415430 : True := trivial
theorem PySem.W.Fast.tw1561345623329273286 : True := trivial
theorem PySem.W.Fast.tw14510294603675634150 : True := trivial
theorem PySem.W.Fast.tw9222172669671390694 : True := trivial
theorem PySem.W.Fast.tw7643350290234600934 : True := trivial
theorem PySem.W.Fast.tw6150741159061433862 : True := trivial
theorem PySem.W.Fast.tw705396912712411686 : True := trivial
theorem PySem.W.Fast.tw2733079577759500870 : True := trivial
theorem PySem.W.Fast.tw7009627339931933254 : True := trivial
theorem PySem.W.Fast.tw11270860485346134630 : True := trivial
theorem PySem.W.Fast.tw17917338441287687846 : True := trivial
theorem PySem.W.Fast.tw8135310548640565958 : True := trivial
theorem PySem.W.Fast.tw17977116011780286150 : True := trivial
theorem PySem.W.Fast.tw8107231927047379654 : True := trivial
theorem PySem.W.Fast.tw1829797736591452870 : True := trivial
theorem PySem.W.Fast.tw8616694812598158054 : True := trivial
theorem PySem.W.Fast.tw14954772593505578758 : True := trivial
theorem PySem.W.Fast.tw6291521070405976870 : True := trivial
theorem PySem.W.Fast.tw14194535896404134694 : True := trivial
theorem PySem.W.Fast.tw5895491249220768550 : True := trivial
theorem PySem.W.Fast.tw888437334689832774 : True := trivial
theorem PySem.W.Fast.tw11570448148976671590 : True := trivial
theorem PySem.W.Fast.tw15757521336427880358 : True := trivial
theorem PySem.W.Fast.tw1223613405259801607 : True := trivial
theorem PySem.W.Fast.tw8758581373891726343 : True := trivial
theorem PySem.W.Fast.tw7941261705621785607 : True := trivial
theorem PySem.W.Fast.tw5986393291282559047 : True := trivial
theorem PySem.W.Fast.tw9913076876210595911 : True := trivial
theorem PySem.W.Fast.tw17612788466488836231 : True := trivial
theorem PySem.W.Fast.tw17750839975215701159 : True := trivial
theorem PySem.W.Fast.tw6164466098300175527 : True := trivial
theorem PySem.W.Fast.tw3692576275897769127 : True := trivial
theorem PySem.W.Fast.tw16018215277088348359 : True := trivial
theorem PySem.W.Fast.tw6889078143520651463 : True := trivial
theorem PySem.W.Fast.tw4331751167345225927 : True := trivial
theorem PySem.W.Fast.tw11462147900355577063 : True := trivial
theorem PySem.W.Fast.tw12127002651126969575 : True := trivial
theorem PySem.W.Fast.tw3418242093454628103 : True := trivial
theorem PySem.W.Fast.tw1347375373457061127 : True := trivial
theorem PySem.W.Fast.tw4073884312991146279 : True := trivial
theorem PySem.W.Fast.tw6063374142598261095 : True := trivial
theorem PySem.W.Fast.tw13699345767739617639 : True := trivial
theorem PySem.W.Fast.tw11009801512230693255 : True := trivial
theorem PySem.W.Fast.tw37592997844738439 : True := trivial
theorem PySem.W.Fast.tw8968231116315560391 : True := trivial
theorem PySem.W.Fast.tw18145518538776775111 : True := trivial
theorem PySem.W.Fast.tw13546711356539996647 : True := trivial
theorem PySem.W.Fast.tw10881459723337282183 : True := trivial
theorem PySem.W.Fast.tw1544646659036899975 : True := trivial
theorem PySem.W.Fast.tw16949533118929621671 : True := trivial
theorem PySem.W.Fast.tw9039335110000713415 : True := trivial
theorem PySem.W.Fast.tw17275904716229685991 : True := trivial
theorem PySem.W.Fast.tw8050968716530684679 : True := trivial
theorem PySem.W.Fast.tw12409748781003002631 : True := trivial
theorem PySem.W.Fast.tw11019603357889368871 : True := trivial
theorem PySem.W.Fast.tw18442571052458197799 : True := trivial
theorem PySem.W.Fast.tw10707630971241436999 : True := trivial
theorem PySem.W.Fast.tw18389557062284560231 : True := trivial
theorem PySem.W.Fast.tw17558144340342135655 : True := trivial
theorem PySem.W.Fast.tw4290325015863200647 : True := trivial
theorem PySem.W.Fast.tw10301736541934140295 : True := trivial
theorem PySem.W.Fast.tw9869701930615404423 : True := trivial
theorem PySem.W.Fast.tw5855837002554855367 : True := trivial
theorem PySem.W.Fast.tw10330064570928432136 : True := trivial
theorem PySem.W.Fast.tw8765164040551022600 : True := trivial
theorem PySem.W.Fast.tw2522629627485181960 : True := trivial
theorem PySem.W.Fast.tw9556756732212400168 : True := trivial
theorem PySem.W.Fast.tw17339909184215769128 : True := trivial
theorem PySem.W.Fast.tw15627369376343799880 : True := trivial
theorem PySem.W.Fast.tw16266653563991310408 : True := trivial
theorem PySem.W.Fast.tw4486096628757858408 : True := trivial
theorem PySem.W.Fast.tw8792589606131301544 : True := trivial
theorem PySem.W.Fast.tw5918366697474300104 : True := trivial
theorem PySem.W.Fast.tw9483411185407015112 : True := trivial
theorem PySem.W.Fast.tw11719002365229891816 : True := trivial
theorem PySem.W.Fast.tw11532012798337905896 : True := trivial
theorem PySem.W.Fast.tw6698483825302538504 : True := trivial
theorem PySem.W.Fast.tw11788778278094151944 : True := trivial
theorem PySem.W.Fast.tw17682430248585782536 : True := trivial
theorem PySem.W.Fast.tw9022548084145812744 : True := trivial
theorem PySem.W.Fast.tw13587815195040098600 : True := trivial
theorem PySem.W.Fast.tw6156529670470848808 : True := trivial
theorem PySem.W.Fast.tw397630345409291560 : True := trivial
theorem PySem.W.Fast.tw14574359556683893064 : True := trivial
theorem PySem.W.Fast.tw13652948004149600584 : True := trivial
theorem PySem.W.Fast.tw11714426797143926120 : True := trivial
theorem PySem.W.Fast.tw12134862704291269992 : True := trivial
theorem PySem.W.Fast.tw6916243697051274632 : True := trivial
theorem PySem.W.Fast.tw17174462920359552392 : True := trivial
theorem PySem.W.Fast.tw3787194247623211400 : True := trivial
theorem PySem.W.Fast.tw9550309872919757288 : True := trivial
theorem PySem.W.Fast.tw16201406767397005800 : True := trivial
theorem PySem.W.Fast.tw3608801926281815624 : True := trivial
theorem PySem.W.Fast.tw8295307136252860040 : True := trivial
theorem PySem.W.Fast.tw16168385895303629480 : True := trivial
theorem PySem.W.Fast.tw1632724627192054472 : True := trivial
theorem PySem.W.Fast.tw11758713492799195848 : True := trivial
theorem PySem.W.Fast.tw11690657911889905384 : True := trivial
theorem PySem.W.Fast.tw10747093568919229160 : True := trivial
theorem PySem.W.Fast.tw13151751594028132072 : True := trivial
theorem PySem.W.Fast.tw17702709219902057192 : True := trivial
theorem PySem.W.Fast.tw12444779528223539976 : True := trivial
theorem PySem.W.Fast.tw13303651779209827112 : True := trivial
theorem PySem.W.Fast.tw6263318465118578472 : True := trivial
theorem PySem.W.Fast.tw5794496861301827368 : True := trivial
theorem PySem.W.Fast.tw3828507139649662760 : True := trivial
theorem PySem.W.Fast.tw7388425718427798344 : True := trivial
theorem PySem.W.Fast.tw10085910183592886088 : True := trivial
theorem PySem.W.Fast.tw9105629518880617352 : True := trivial
theorem PySem.W.Fast.tw14397354924654097320 : True := trivial
theorem PySem.W.Fast.tw3371530980953846728 : True := trivial
theorem PySem.W.Fast.tw12406118407240756200 : True := trivial
theorem PySem.W.Fast.tw1231754194328736744 : True := trivial
theorem PySem.W.Fast.tw17006202701402941449 : True := trivial
theorem PySem.W.Fast.tw8452375642264026121 : True := trivial
theorem PySem.W.Fast.tw1614477631759696905 : True := trivial
theorem PySem.W.Fast.tw11521213867074529353 : True := trivial
theorem PySem.W.Fast.tw2048443470143744105 : True := trivial
theorem PySem.W.Fast.tw10480053269651229865 : True := trivial
theorem PySem.W.Fast.tw6916465697786271913 : True := trivial
theorem PySem.W.Fast.tw5842623260843952297 : True := trivial
theorem PySem.W.Fast.tw15679283149934975177 : True := trivial
theorem PySem.W.Fast.tw5761519751862128873 : True := trivial
theorem PySem.W.Fast.tw13746710625491174633 : True := trivial
theorem PySem.W.Fast.tw12845778490335929609 : True := trivial
theorem PySem.W.Fast.tw13567129827484312841 : True := trivial
theorem PySem.W.Fast.tw5949327807663489289 : True := trivial
theorem PySem.W.Fast.tw566980137251640617 : True := trivial
theorem PySem.W.Fast.tw10042426316551141673 : True := trivial
theorem PySem.W.Fast.tw13666618538523850025 : True := trivial
theorem PySem.W.Fast.tw6016187260191847753 : True := trivial
theorem PySem.W.Fast.tw16874739748985197897 : True := trivial
theorem PySem.W.Fast.tw10153056062683199849 : True := trivial
theorem PySem.W.Fast.tw10207250883627996521 : True := trivial
theorem PySem.W.Fast.tw11997147327605968265 : True := trivial
theorem PySem.W.Fast.tw2495856304383926729 : True := trivial
theorem PySem.W.Fast.tw7232423575010116073 : True := trivial
theorem PySem.W.Fast.tw1306939370042888681 : True := trivial
theorem PySem.W.Fast.tw5466854462760657385 : True := trivial
theorem PySem.W.Fast.tw12553486821538962985 : True := trivial
theorem PySem.W.Fast.tw4728156075144753705 : True := trivial
theorem PySem.W.Fast.tw16228765279772995177 : True := trivial
theorem PySem.W.Fast.tw1345873400735557257 : True := trivial
theorem PySem.W.Fast.tw14261381125813309097 : True := trivial
theorem PySem.W.Fast.tw4897740926546117321 : True := trivial
theorem PySem.W.Fast.tw16708922275532775113 : True := trivial
theorem PySem.W.Fast.tw1046102705407108809 : True := trivial
theorem PySem.W.Fast.tw14460204289382180553 : True := trivial
theorem PySem.W.Fast.tw3009352351195001545 : True := trivial
theorem PySem.W.Fast.tw1202396375485050601 : True := trivial
theorem PySem.W.Fast.tw5623433539715184393 : True := trivial
theorem PySem.W.Fast.tw5730662284782922505 : True := trivial
theorem PySem.W.Fast.tw17435166011768801097 : True := trivial
theorem PySem.W.Fast.tw5901959022050588489 : True := trivial
theorem PySem.W.Fast.tw8595925262704517001 : True := trivial
theorem PySem.W.Fast.tw330523550214371241 : True := trivial
theorem PySem.W.Fast.tw5196404051573330857 : True := trivial
theorem PySem.W.Fast.tw1536535086157146057 : True := trivial
theorem PySem.W.Fast.tw8842953536239002569 : True := trivial
theorem PySem.W.Fast.tw9573392469559115721 : True := trivial
theorem PySem.W.Fast.tw735677836238211049 : True := trivial
theorem PySem.W.Fast.tw7211857053100124202 : True := trivial
theorem PySem.W.Fast.tw7564101624048041002 : True := trivial
theorem PySem.W.Fast.tw12231751409313106986 : True := trivial
theorem PySem.W.Fast.tw6635148801066262602 : True := trivial
theorem PySem.W.Fast.tw6954364925761210474 : True := trivial
theorem PySem.W.Fast.tw13856227339221037162 : True := trivial
theorem PySem.W.Fast.tw5001215875997591722 : True := trivial
theorem PySem.W.Fast.tw14702685597668253898 : True := trivial
theorem PySem.W.Fast.tw4650672912038644938 : True := trivial
theorem PySem.W.Fast.tw227857287874156778 : True := trivial
theorem PySem.W.Fast.tw7850982202090966250 : True := trivial
theorem PySem.W.Fast.tw2526691822467828970 : True := trivial
theorem PySem.W.Fast.tw512531283447310602 : True := trivial
theorem PySem.W.Fast.tw18030059710887287082 : True := trivial
theorem PySem.W.Fast.tw13725611242798996778 : True := trivial
theorem PySem.W.Fast.tw1455223614554073386 : True := trivial
theorem PySem.W.Fast.tw8610065615034062154 : True := trivial
theorem PySem.W.Fast.tw8470355439734592842 : True := trivial
theorem PySem.W.Fast.tw17620623094554368330 : True := trivial
theorem PySem.W.Fast.tw2154627642273676650 : True := trivial
theorem PySem.W.Fast.tw1674470814505783658 : True := trivial
theorem PySem.W.Fast.tw13491402347912830346 : True := trivial
theorem PySem.W.Fast.tw17904779595178499498 : True := trivial
theorem PySem.W.Fast.tw10747120781943585226 : True := trivial
theorem PySem.W.Fast.tw10376840972333392362 : True := trivial
theorem PySem.W.Fast.tw7809422568659083786 : True := trivial
theorem PySem.W.Fast.tw1850161852472754730 : True := trivial
theorem PySem.W.Fast.tw5687554364447403562 : True := trivial
theorem PySem.W.Fast.tw4142517085705844266 : True := trivial
theorem PySem.W.Fast.tw4942938134074964522 : True := trivial
theorem PySem.W.Fast.tw10343290088489909802 : True := trivial
theorem PySem.W.Fast.tw6093808226092324426 : True := trivial
theorem PySem.W.Fast.tw17916165185875947114 : True := trivial
theorem PySem.W.Fast.tw1839579589045389962 : True := trivial
theorem PySem.W.Fast.tw6184126719886170762 : True := trivial
theorem PySem.W.Fast.tw7806348065449885322 : True := trivial
theorem PySem.W.Fast.tw6182284370195727018 : True := trivial
theorem PySem.W.Fast.tw10765450694874810058 : True := trivial
theorem PySem.W.Fast.tw1253959102234229514 : True := trivial
theorem PySem.W.Fast.tw4844614114413168426 : True := trivial
theorem PySem.W.Fast.tw15503412010312312714 : True := trivial
theorem PySem.W.Fast.tw10462556113238106026 : True := trivial
theorem PySem.W.Fast.tw16161791026255808426 : True := trivial
theorem PySem.W.Fast.tw8645214015560507306 : True := trivial
theorem PySem.W.Fast.tw2184450441780333514 : True := trivial
theorem PySem.W.Fast.tw13146129055014203338 : True := trivial
theorem PySem.W.Fast.tw9950346667785345994 : True := trivial
theorem PySem.W.Fast.tw3140509846915242954 : True := trivial
theorem PySem.W.Fast.tw6268154592190719946 : True := trivial
theorem PySem.W.Fast.tw5800670858836382698 : True := trivial
theorem PySem.W.Fast.tw2791438678355151883 : True := trivial
theorem PySem.W.Fast.tw13404577376655612939 : True := trivial
theorem PySem.W.Fast.tw579743918675083275 : True := trivial
theorem PySem.W.Fast.tw3951324822480470059 : True := trivial
theorem PySem.W.Fast.tw6693548978308630571 : True := trivial
theorem PySem.W.Fast.tw6521972475606583403 : True := trivial
theorem PySem.W.Fast.tw4938477717242680459 : True := trivial
theorem PySem.W.Fast.tw14878587610839417035 : True := trivial
theorem PySem.W.Fast.tw17473308338111063243 : True := trivial
theorem PySem.W.Fast.tw12314064264621216011 : True := trivial
theorem PySem.W.Fast.tw5389874083925446923 : True := trivial
theorem PySem.W.Fast.tw6214873011503468907 : True := trivial
theorem PySem.W.Fast.tw7008055526477234603 : True := trivial
theorem PySem.W.Fast.tw4991263215096891819 : True := trivial
theorem PySem.W.Fast.tw9154461410803920299 : True := trivial
theorem PySem.W.Fast.tw7881143719405250987 : True := trivial
theorem PySem.W.Fast.tw17715140880020550091 : True := trivial
theorem PySem.W.Fast.tw330671114349019627 : True := trivial
theorem PySem.W.Fast.tw3460206353735428587 : True := trivial
theorem PySem.W.Fast.tw17020923405738231275 : True := trivial
theorem PySem.W.Fast.tw450357163383460363 : True := trivial
theorem PySem.W.Fast.tw16343475516657346059 : True := trivial
theorem PySem.W.Fast.tw2435977065368876587 : True := trivial
theorem PySem.W.Fast.tw6771604673072885323 : True := trivial
theorem PySem.W.Fast.tw11905834824262292107 : True := trivial
theorem PySem.W.Fast.tw13134709407769254539 : True := trivial
theorem PySem.W.Fast.tw9335062101512977035 : True := trivial
theorem PySem.W.Fast.tw6251374312827456171 : True := trivial
theorem PySem.W.Fast.tw14229155307002864299 : True := trivial
theorem PySem.W.Fast.tw12751705815923273387 : True := trivial
theorem PySem.W.Fast.tw15840131436181024427 : True := trivial
theorem PySem.W.Fast.tw701774949236340395 : True := trivial
theorem PySem.W.Fast.tw8194504103124270763 : True := trivial
theorem PySem.W.Fast.tw81892500290503403 : True := trivial
theorem PySem.W.Fast.tw13744844580189866763 : True := trivial
theorem PySem.W.Fast.tw11570191539297127211 : True := trivial
theorem PySem.W.Fast.tw9648309947248391979 : True := trivial
theorem PySem.W.Fast.tw17362064475186449195 : True := trivial
theorem PySem.W.Fast.tw6622833136143668075 : True := trivial
theorem PySem.W.Fast.tw15730597364798476171 : True := trivial
theorem PySem.W.Fast.tw7837490099730478987 : True := trivial
theorem PySem.W.Fast.tw11003516819589314507 : True := trivial
theorem PySem.W.Fast.tw11468375277759848427 : True := trivial
theorem PySem.W.Fast.tw9183741711922829324 : True := trivial
theorem PySem.W.Fast.tw8757512641178140716 : True := trivial
theorem PySem.W.Fast.tw14869894369450474572 : True := trivial
theorem PySem.W.Fast.tw823407240089451628 : True := trivial
theorem PySem.W.Fast.tw4866360935678591084 : True := trivial
theorem PySem.W.Fast.tw3739196033111402668 : True := trivial
theorem PySem.W.Fast.tw2129751445675720876 : True := trivial
theorem PySem.W.Fast.tw15834884486456039596 : True := trivial
theorem PySem.W.Fast.tw6800179866556961100 : True := trivial
theorem PySem.W.Fast.tw14509208374742388076 : True := trivial
theorem PySem.W.Fast.tw9744985438383222124 : True := trivial
theorem PySem.W.Fast.tw8451576106089080172 : True := trivial
theorem PySem.W.Fast.tw10848393039823660396 : True := trivial
theorem PySem.W.Fast.tw13064821541157707148 : True := trivial
theorem PySem.W.Fast.tw16435507505113617804 : True := trivial
theorem PySem.W.Fast.tw5037310911120735660 : True := trivial
theorem PySem.W.Fast.tw12779620034292474348 : True := trivial
theorem PySem.W.Fast.tw2812638317177540140 : True := trivial
theorem PySem.W.Fast.tw17004264921286675052 : True := trivial
theorem PySem.W.Fast.tw17479408493091120748 : True := trivial
theorem PySem.W.Fast.tw4888259927487937132 : True := trivial
theorem PySem.W.Fast.tw2732218940397301420 : True := trivial
theorem PySem.W.Fast.tw14734172310069255884 : True := trivial
theorem PySem.W.Fast.tw1377265276613950156 : True := trivial
theorem PySem.W.Fast.tw11970806592921321228 : True := trivial
theorem PySem.W.Fast.tw186602971643380556 : True := trivial
theorem PySem.W.Fast.tw13681510520378529612 : True := trivial
theorem PySem.W.Fast.tw17841819338432757580 : True := trivial
theorem PySem.W.Fast.tw14345712774547139404 : True := trivial
theorem PySem.W.Fast.tw10270177119952959308 : True := trivial
theorem PySem.W.Fast.tw4009018534912894828 : True := trivial
theorem PySem.W.Fast.tw16412873907247662956 : True := trivial
theorem PySem.W.Fast.tw9562685841864521580 : True := trivial
theorem PySem.W.Fast.tw9204475941872376716 : True := trivial
theorem PySem.W.Fast.tw6448507140599685004 : True := trivial
theorem PySem.W.Fast.tw2911587925339044780 : True := trivial
theorem PySem.W.Fast.tw1322369069392018412 : True := trivial
theorem PySem.W.Fast.tw6188340085701155853 : True := trivial
theorem PySem.W.Fast.tw11711635506523534349 : True := trivial
theorem PySem.W.Fast.tw14068177614856074285 : True := trivial
theorem PySem.W.Fast.tw9323347277226798157 : True := trivial
theorem PySem.W.Fast.tw11370578636513307757 : True := trivial
theorem PySem.W.Fast.tw2388397190210504845 : True := trivial
theorem PySem.W.Fast.tw6485252761818841389 : True := trivial
theorem PySem.W.Fast.tw13704371195403761965 : True := trivial
theorem PySem.W.Fast.tw17610797252297065805 : True := trivial
theorem PySem.W.Fast.tw11929606194677196109 : True := trivial
theorem PySem.W.Fast.tw916892637579989325 : True := trivial
theorem PySem.W.Fast.tw15566816774697319757 : True := trivial
theorem PySem.W.Fast.tw14836491746794803565 : True := trivial
theorem PySem.W.Fast.tw3522734860009720173 : True := trivial
theorem PySem.W.Fast.tw16383610512060670413 : True := trivial
theorem PySem.W.Fast.tw15964015177244669389 : True := trivial
theorem PySem.W.Fast.tw7222813711566240205 : True := trivial
theorem PySem.W.Fast.tw8715379962639980013 : True := trivial
theorem PySem.W.Fast.tw5861131395676937709 : True := trivial
theorem PySem.W.Fast.tw15803783644204236301 : True := trivial
theorem PySem.W.Fast.tw16542483835887832653 : True := trivial
theorem PySem.W.Fast.tw1191872904234593869 : True := trivial
theorem PySem.W.Fast.tw12066971729039951469 : True := trivial
theorem PySem.W.Fast.tw8150935669038281325 : True := trivial
theorem PySem.W.Fast.tw10029481238792191629 : True := trivial
theorem PySem.W.Fast.tw2661767534595902125 : True := trivial
theorem PySem.W.Fast.tw4287437581752396461 : True := trivial
theorem PySem.W.Fast.tw14689913284990400173 : True := trivial
theorem PySem.W.Fast.tw9975559264053655213 : True := trivial
theorem PySem.W.Fast.tw422307254271081133 : True := trivial
theorem PySem.W.Fast.tw15682669705643426509 : True := trivial
theorem PySem.W.Fast.tw12259866665388149453 : True := trivial
theorem PySem.W.Fast.tw7248406509969542861 : True := trivial
theorem PySem.W.Fast.tw3057433745239059149 : True := trivial
theorem PySem.W.Fast.tw8176667743868987117 : True := trivial
theorem PySem.W.Fast.tw14627984009647046413 : True := trivial
theorem PySem.W.Fast.tw15086988737942397741 : True := trivial
theorem PySem.W.Fast.tw9176770706468679501 : True := trivial
theorem PySem.W.Fast.tw17797861745711167341 : True := trivial
theorem PySem.W.Fast.tw16823208974114072461 : True := trivial
theorem PySem.W.Fast.tw11145810474438359981 : True := trivial
theorem PySem.W.Fast.tw10036820421666308013 : True := trivial
theorem PySem.W.Fast.tw4099496335738493933 : True := trivial
theorem PySem.W.Fast.tw6376441017878131726 : True := trivial
theorem PySem.W.Fast.tw17702439889714829326 : True := trivial
theorem PySem.W.Fast.tw9513354997727908974 : True := trivial
theorem PySem.W.Fast.tw14457386507588235374 : True := trivial
theorem PySem.W.Fast.tw13547587219672659086 : True := trivial
theorem PySem.W.Fast.tw15363228199934342382 : True := trivial
theorem PySem.W.Fast.tw6795103398701545710 : True := trivial
theorem PySem.W.Fast.tw9498272219339797774 : True := trivial
theorem PySem.W.Fast.tw1213137113650683150 : True := trivial
theorem PySem.W.Fast.tw1673947980678278446 : True := trivial
theorem PySem.W.Fast.tw2661975541144455534 : True := trivial
theorem PySem.W.Fast.tw3209066993437737390 : True := trivial
theorem PySem.W.Fast.tw15947740952998879662 : True := trivial
theorem PySem.W.Fast.tw6815482023517169102 : True := trivial
theorem PySem.W.Fast.tw10274085589433725390 : True := trivial
theorem PySem.W.Fast.tw11381762486962314702 : True := trivial
theorem PySem.W.Fast.tw16415657088046488046 : True := trivial
theorem PySem.W.Fast.tw585029731452215790 : True := trivial
theorem PySem.W.Fast.tw16336198255722695182 : True := trivial
theorem PySem.W.Fast.tw10566065189855934990 : True := trivial
theorem PySem.W.Fast.tw14908503299394180654 : True := trivial
theorem PySem.W.Fast.tw3473778106100985422 : True := trivial
theorem PySem.W.Fast.tw13915171911554665070 : True := trivial
theorem PySem.W.Fast.tw4778826883469515374 : True := trivial
theorem PySem.W.Fast.tw12249094639642215054 : True := trivial
theorem PySem.W.Fast.tw5883119242751050382 : True := trivial
theorem PySem.W.Fast.tw9583941636410412686 : True := trivial
theorem PySem.W.Fast.tw168824985542323886 : True := trivial
theorem PySem.W.Fast.tw17966681707017797294 : True := trivial
theorem PySem.W.Fast.tw12612102456018988750 : True := trivial
theorem PySem.W.Fast.tw8628429507693746926 : True := trivial
theorem PySem.W.Fast.tw16745318838475621134 : True := trivial
theorem PySem.W.Fast.tw15263258260705643278 : True := trivial
theorem PySem.W.Fast.tw5325316381287167758 : True := trivial
theorem PySem.W.Fast.tw13527865578090774286 : True := trivial
theorem PySem.W.Fast.tw7006380466512420622 : True := trivial
theorem PySem.W.Fast.tw13008144654572674830 : True := trivial
theorem PySem.W.Fast.tw16821714572713729838 : True := trivial
theorem PySem.W.Fast.tw647850525120797518 : True := trivial
theorem PySem.W.Fast.tw11904333401813102414 : True := trivial
theorem PySem.W.Fast.tw15892958672682633038 : True := trivial
theorem PySem.W.Fast.tw6711822946610677614 : True := trivial
theorem PySem.W.Fast.tw9119352577588570990 : True := trivial
theorem PySem.W.Fast.tw10892096612406189934 : True := trivial
theorem PySem.W.Fast.tw12802156230597334926 : True := trivial
theorem PySem.W.Fast.tw6447900077936645038 : True := trivial
theorem PySem.W.Fast.tw9392454164655966158 : True := trivial
theorem PySem.W.Fast.tw10835530203863343054 : True := trivial
theorem PySem.W.Fast.tw1284718007611777006 : True := trivial
theorem PySem.W.Fast.tw14714303652710620207 : True := trivial
theorem PySem.W.Fast.tw3223580826912660527 : True := trivial
theorem PySem.W.Fast.tw10214025582108268591 : True := trivial
theorem PySem.W.Fast.tw10575964238278812719 : True := trivial
theorem PySem.W.Fast.tw16112427637445093423 : True := trivial
theorem PySem.W.Fast.tw8491621371928418383 : True := trivial
theorem PySem.W.Fast.tw5044106475246268527 : True := trivial
theorem PySem.W.Fast.tw9375406413049899151 : True := trivial
theorem PySem.W.Fast.tw7367000972498221199 : True := trivial
theorem PySem.W.Fast.tw6431212940009234575 : True := trivial
theorem PySem.W.Fast.tw3215581183684690095 : True := trivial
theorem PySem.W.Fast.tw7657511821578266799 : True := trivial
theorem PySem.W.Fast.tw2184289695974326479 : True := trivial
theorem PySem.W.Fast.tw7651944161863840975 : True := trivial
theorem PySem.W.Fast.tw1154430182195216591 : True := trivial
theorem PySem.W.Fast.tw2163575558567993583 : True := trivial
theorem PySem.W.Fast.tw16998079684226070767 : True := trivial
theorem PySem.W.Fast.tw14943531946622200079 : True := trivial
theorem PySem.W.Fast.tw7311781537287157007 : True := trivial
theorem PySem.W.Fast.tw13582396265669029135 : True := trivial
theorem PySem.W.Fast.tw4742078511998858511 : True := trivial
theorem PySem.W.Fast.tw17497674284286771503 : True := trivial
theorem PySem.W.Fast.tw9268420985249170735 : True := trivial
theorem PySem.W.Fast.tw5605343391185786159 : True := trivial
theorem PySem.W.Fast.tw12361516112311154991 : True := trivial
theorem PySem.W.Fast.tw12337896974339388783 : True := trivial
theorem PySem.W.Fast.tw7422488827745715567 : True := trivial
theorem PySem.W.Fast.tw11619783686687014287 : True := trivial
theorem PySem.W.Fast.tw10111342343850319247 : True := trivial
theorem PySem.W.Fast.tw2131611020864693679 : True := trivial
theorem PySem.W.Fast.tw12246319994485091759 : True := trivial
theorem PySem.W.Fast.tw12350789304316267983 : True := trivial
theorem PySem.W.Fast.tw10694217932386899407 : True := trivial
theorem PySem.W.Fast.tw17068206337923166735 : True := trivial
theorem PySem.W.Fast.tw8721622950493629999 : True := trivial
theorem PySem.W.Fast.tw13128241237776773679 : True := trivial
theorem PySem.W.Fast.tw11629728083705061935 : True := trivial
theorem PySem.W.Fast.tw2110675968163647055 : True := trivial
theorem PySem.W.Fast.tw12820694116723074639 : True := trivial
theorem PySem.W.Fast.tw14181256140926643791 : True := trivial
theorem PySem.W.Fast.tw14544219931304011407 : True := trivial
theorem PySem.W.Fast.tw1759603273299484335 : True := trivial
theorem PySem.W.Fast.tw18045757183361675951 : True := trivial
theorem PySem.W.Fast.tw817622209722762959 : True := trivial
theorem PySem.W.Fast.tw4166276706172454607 : True := trivial
theorem PySem.W.Fast.tw14487504001534319311 : True := trivial
theorem PySem.W.Fast.tw8524910723523407567 : True := trivial
theorem PySem.W.Fast.tw712506366379307759 : True := trivial
theorem PySem.W.Fast.tw9406478073206711055 : True := trivial
theorem PySem.W.Fast.tw995631666415547151 : True := trivial
theorem PySem.W.Fast.tw1215737428310052623 : True := trivial
theorem PySem.W.Fast.tw14474372577487307567 : True := trivial
theorem PySem.W.Fast.tw1505068944191278895 : True := trivial
theorem PySem.W.Fast.tw14346845300395355983 : True := trivial
theorem PySem.W.Fast.tw14015902768763223887 : True := trivial
theorem PySem.W.Fast.tw4881971535210716047 : True := trivial
theorem PySem.W.Fast.tw8846187053846935471 : True := trivial
theorem PySem.W.Fast.tw14408906813427496879 : True := trivial
theorem PySem.W.Fast.tw2865394152571620271 : True := trivial
theorem PySem.W.Fast.tw12999128780647295919 : True := trivial
theorem PySem.W.Fast.tw2013466157778995151 : True := trivial
theorem PySem.W.Fast.tw10662028383271779279 : True := trivial
theorem PySem.W.Fast.tw3932642337058554863 : True := trivial
theorem PySem.W.Fast.tw11000322395405036527 : True := trivial
theorem PySem.W.Fast.tw15921146326322073583 : True := trivial
theorem PySem.W.Fast.tw6260032965616824303 : True := trivial
theorem PySem.W.Fast.tw7897642684954671087 : True := trivial
theorem PySem.W.Fast.tw17969663990677119056 : True := trivial
theorem PySem.W.Fast.tw10759568871319103568 : True := trivial
theorem PySem.W.Fast.tw13931969746162314320 : True := trivial
theorem PySem.W.Fast.tw16029439657078852720 : True := trivial
theorem PySem.W.Fast.tw1521031873449827472 : True := trivial
theorem PySem.W.Fast.tw12244723387160635536 : True := trivial
theorem PySem.W.Fast.tw6759694199530923184 : True := trivial
theorem PySem.W.Fast.tw11016824798917416112 : True := trivial
theorem PySem.W.Fast.tw13936320515951808816 : True := trivial
theorem PySem.W.Fast.tw16484047718145086768 : True := trivial
theorem PySem.W.Fast.tw8529606844727470448 : True := trivial
theorem PySem.W.Fast.tw1444370524949004656 : True := trivial
theorem PySem.W.Fast.tw63691211546303888 : True := trivial
theorem PySem.W.Fast.tw10425208693659646352 : True := trivial
theorem PySem.W.Fast.tw15887462255136029104 : True := trivial
theorem PySem.W.Fast.tw1719239916511090096 : True := trivial
theorem PySem.W.Fast.tw11716257619510540752 : True := trivial
theorem PySem.W.Fast.tw10041498742724345296 : True := trivial
theorem PySem.W.Fast.tw10473961311311391184 : True := trivial
theorem PySem.W.Fast.tw16931526994598402608 : True := trivial
theorem PySem.W.Fast.tw13430131826480493136 : True := trivial
theorem PySem.W.Fast.tw12056223104827577936 : True := trivial
theorem PySem.W.Fast.tw16519823123165740624 : True := trivial
theorem PySem.W.Fast.tw7660108935035529840 : True := trivial
theorem PySem.W.Fast.tw15551089560659706544 : True := trivial
theorem PySem.W.Fast.tw14497533192434542256 : True := trivial
theorem PySem.W.Fast.tw527559064062979856 : True := trivial
theorem PySem.W.Fast.tw2423877515477845808 : True := trivial
theorem PySem.W.Fast.tw10903518953483128624 : True := trivial
theorem PySem.W.Fast.tw10728965362495349552 : True := trivial
theorem PySem.W.Fast.tw7223402350710326096 : True := trivial
theorem PySem.W.Fast.tw14028846496373221200 : True := trivial
theorem PySem.W.Fast.tw8659980445745240976 : True := trivial
theorem PySem.W.Fast.tw8118876699584917521 : True := trivial
theorem PySem.W.Fast.tw636144567506846769 : True := trivial
theorem PySem.W.Fast.tw432678898867985457 : True := trivial
theorem PySem.W.Fast.tw11980141590865838161 : True := trivial
theorem PySem.W.Fast.tw5159117364268106865 : True := trivial
theorem PySem.W.Fast.tw6310057341468604529 : True := trivial
theorem PySem.W.Fast.tw2905096995170622609 : True := trivial
theorem PySem.W.Fast.tw15891192265935822001 : True := trivial
theorem PySem.W.Fast.tw13567667940021348529 : True := trivial
theorem PySem.W.Fast.tw17560203807319108785 : True := trivial
theorem PySem.W.Fast.tw14311125911478579409 : True := trivial
theorem PySem.W.Fast.tw4248521028803820785 : True := trivial
theorem PySem.W.Fast.tw16720601876909799697 : True := trivial
theorem PySem.W.Fast.tw1335043751026767153 : True := trivial
theorem PySem.W.Fast.tw13840716818204624209 : True := trivial
theorem PySem.W.Fast.tw9803315319139493201 : True := trivial
theorem PySem.W.Fast.tw13840632816171233649 : True := trivial
theorem PySem.W.Fast.tw11574631095286196593 : True := trivial
theorem PySem.W.Fast.tw18156353194755962257 : True := trivial
theorem PySem.W.Fast.tw14706880178576516497 : True := trivial
theorem PySem.W.Fast.tw14588322452200456657 : True := trivial
theorem PySem.W.Fast.tw2028421399424471505 : True := trivial
theorem PySem.W.Fast.tw15394731409584368081 : True := trivial
theorem PySem.W.Fast.tw1900921749392243185 : True := trivial
theorem PySem.W.Fast.tw13030903282577630705 : True := trivial
theorem PySem.W.Fast.tw450621424744623601 : True := trivial
theorem PySem.W.Fast.tw17256362467404686897 : True := trivial
theorem PySem.W.Fast.tw4259613438228901425 : True := trivial
theorem PySem.W.Fast.tw15600264930529105457 : True := trivial
theorem PySem.W.Fast.tw15569628855819472497 : True := trivial
theorem PySem.W.Fast.tw7468755336687096433 : True := trivial
theorem PySem.W.Fast.tw10644686898431619697 : True := trivial
theorem PySem.W.Fast.tw2088631728989146769 : True := trivial
theorem PySem.W.Fast.tw2409484437324572337 : True := trivial
theorem PySem.W.Fast.tw9438193231958325937 : True := trivial
theorem PySem.W.Fast.tw1629652491006043825 : True := trivial
theorem PySem.W.Fast.tw16208507433892735697 : True := trivial
theorem PySem.W.Fast.tw11845737465833565937 : True := trivial
theorem PySem.W.Fast.tw5654333224864953105 : True := trivial
theorem PySem.W.Fast.tw1747186680815906641 : True := trivial
theorem PySem.W.Fast.tw9172234819528704881 : True := trivial
theorem PySem.W.Fast.tw2771663340746490737 : True := trivial
theorem PySem.W.Fast.tw9658183932202108817 : True := trivial
theorem PySem.W.Fast.tw71940981693008785 : True := trivial
theorem PySem.W.Fast.tw12929406573071161233 : True := trivial
theorem PySem.W.Fast.tw1946402507246210033 : True := trivial
theorem PySem.W.Fast.tw9874188902455228401 : True := trivial
theorem PySem.W.Fast.tw7144684763608666097 : True := trivial
theorem PySem.W.Fast.tw13909050949525444658 : True := trivial
theorem PySem.W.Fast.tw2301076008708757586 : True := trivial
theorem PySem.W.Fast.tw8729356493783900274 : True := trivial
theorem PySem.W.Fast.tw919140099188118642 : True := trivial
theorem PySem.W.Fast.tw17601589731691321458 : True := trivial
theorem PySem.W.Fast.tw16299751801054434450 : True := trivial
theorem PySem.W.Fast.tw876137443672427698 : True := trivial
theorem PySem.W.Fast.tw4586036322390831282 : True := trivial
theorem PySem.W.Fast.tw15997985999477108914 : True := trivial
theorem PySem.W.Fast.tw13451615870103949522 : True := trivial
theorem PySem.W.Fast.tw7231953858994621650 : True := trivial
theorem PySem.W.Fast.tw2604607688549711090 : True := trivial
theorem PySem.W.Fast.tw15948084390082928946 : True := trivial
theorem PySem.W.Fast.tw6635768474816925010 : True := trivial
theorem PySem.W.Fast.tw10684387808907163986 : True := trivial
theorem PySem.W.Fast.tw17755057232950503794 : True := trivial
theorem PySem.W.Fast.tw15505134571783404946 : True := trivial
theorem PySem.W.Fast.tw16046332495815633298 : True := trivial
theorem PySem.W.Fast.tw17956949684502714802 : True := trivial
theorem PySem.W.Fast.tw8462784181958640082 : True := trivial
theorem PySem.W.Fast.tw10980474383541676498 : True := trivial
theorem PySem.W.Fast.tw9207961028757696978 : True := trivial
theorem PySem.W.Fast.tw163202244150224338 : True := trivial
theorem PySem.W.Fast.tw3409852394103448050 : True := trivial
theorem PySem.W.Fast.tw1540429494059968018 : True := trivial
theorem PySem.W.Fast.tw14445597765286982162 : True := trivial
theorem PySem.W.Fast.tw13713727644690157170 : True := trivial
theorem PySem.W.Fast.tw11432299391154203250 : True := trivial
theorem PySem.W.Fast.tw10135696062164996754 : True := trivial
theorem PySem.W.Fast.tw6054893614879535794 : True := trivial
theorem PySem.W.Fast.tw17434280555605988210 : True := trivial
theorem PySem.W.Fast.tw298944576501768050 : True := trivial
theorem PySem.W.Fast.tw12397043140601169810 : True := trivial
theorem PySem.W.Fast.tw10297889372932748210 : True := trivial
theorem PySem.W.Fast.tw7491495672178641971 : True := trivial
theorem PySem.W.Fast.tw4041245407705241779 : True := trivial
theorem PySem.W.Fast.tw4916974509236663475 : True := trivial
theorem PySem.W.Fast.tw12249695779086142707 : True := trivial
theorem PySem.W.Fast.tw3276584024939770099 : True := trivial
theorem PySem.W.Fast.tw6638671009721530611 : True := trivial
theorem PySem.W.Fast.tw4930017421729079603 : True := trivial
theorem PySem.W.Fast.tw3084685829762016627 : True := trivial
theorem PySem.W.Fast.tw4298763348386768275 : True := trivial
theorem PySem.W.Fast.tw317335171406621075 : True := trivial
theorem PySem.W.Fast.tw9632210466385802675 : True := trivial
theorem PySem.W.Fast.tw11041573744847506867 : True := trivial
theorem PySem.W.Fast.tw8452666858037426675 : True := trivial
theorem PySem.W.Fast.tw13648909001240923635 : True := trivial
theorem PySem.W.Fast.tw8613261844704164371 : True := trivial
theorem PySem.W.Fast.tw13514255592901064339 : True := trivial
theorem PySem.W.Fast.tw12992321195772888723 : True := trivial
theorem PySem.W.Fast.tw11020539908314124979 : True := trivial
theorem PySem.W.Fast.tw8029781199881047795 : True := trivial
theorem PySem.W.Fast.tw239900714587154195 : True := trivial
theorem PySem.W.Fast.tw114126555866018611 : True := trivial
theorem PySem.W.Fast.tw3682613507725973299 : True := trivial
theorem PySem.W.Fast.tw11583603312098727731 : True := trivial
theorem PySem.W.Fast.tw8102163377865478995 : True := trivial
theorem PySem.W.Fast.tw16596584614446519187 : True := trivial
theorem PySem.W.Fast.tw3489848532090791891 : True := trivial
theorem PySem.W.Fast.tw16121551764686037971 : True := trivial
theorem PySem.W.Fast.tw7962538737223168020 : True := trivial
theorem PySem.W.Fast.tw13346099365907991604 : True := trivial
theorem PySem.W.Fast.tw10836496319889381428 : True := trivial
theorem PySem.W.Fast.tw10273719770612066356 : True := trivial
theorem PySem.W.Fast.tw12958473073376345172 : True := trivial
theorem PySem.W.Fast.tw13870965470930358420 : True := trivial
theorem PySem.W.Fast.tw11402549662071085204 : True := trivial
theorem PySem.W.Fast.tw13512540015596069012 : True := trivial
theorem PySem.W.Fast.tw4618390917870936212 : True := trivial
theorem PySem.W.Fast.tw3830827473511707796 : True := trivial
theorem PySem.W.Fast.tw787527991706914996 : True := trivial
theorem PySem.W.Fast.tw17800525614283770036 : True := trivial
theorem PySem.W.Fast.tw16245723888946534580 : True := trivial
theorem PySem.W.Fast.tw8366175509237470420 : True := trivial
theorem PySem.W.Fast.tw3928560326511362292 : True := trivial
theorem PySem.W.Fast.tw10183587631515370740 : True := trivial
theorem PySem.W.Fast.tw4972810322708370708 : True := trivial
theorem PySem.W.Fast.tw10832517140042194196 : True := trivial
theorem PySem.W.Fast.tw13392629399855145300 : True := trivial
theorem PySem.W.Fast.tw18228085806625768820 : True := trivial
theorem PySem.W.Fast.tw18432478487577713012 : True := trivial
theorem PySem.W.Fast.tw14195922740348400020 : True := trivial
theorem PySem.W.Fast.tw3612054221005246868 : True := trivial
theorem PySem.W.Fast.tw10042879952614719924 : True := trivial
theorem PySem.W.Fast.tw3797848831210311092 : True := trivial
theorem PySem.W.Fast.tw12388925754744482260 : True := trivial
theorem PySem.W.Fast.tw13564704257927412180 : True := trivial
theorem PySem.W.Fast.tw4925338102712970740 : True := trivial
theorem PySem.W.Fast.tw9400448174587543092 : True := trivial
theorem PySem.W.Fast.tw9531182709113035348 : True := trivial
theorem PySem.W.Fast.tw11851919730553690708 : True := trivial
theorem PySem.W.Fast.tw905599153537590868 : True := trivial
theorem PySem.W.Fast.tw7461252963347059284 : True := trivial
theorem PySem.W.Fast.tw3249811845389658740 : True := trivial
theorem PySem.W.Fast.tw4091103285626969748 : True := trivial
theorem PySem.W.Fast.tw7437131913187844788 : True := trivial
theorem PySem.W.Fast.tw16196916988353704628 : True := trivial
theorem PySem.W.Fast.tw2024557355580358356 : True := trivial
theorem PySem.W.Fast.tw12680565848295689972 : True := trivial
theorem PySem.W.Fast.tw14435606702496199476 : True := trivial
theorem PySem.W.Fast.tw10361041968761493300 : True := trivial
theorem PySem.W.Fast.tw8300045767276825428 : True := trivial
theorem PySem.W.Fast.tw3114298003638998868 : True := trivial
theorem PySem.W.Fast.tw17739196342137455508 : True := trivial
theorem PySem.W.Fast.tw2633651406516625300 : True := trivial
theorem PySem.W.Fast.tw7079612585533096852 : True := trivial
theorem PySem.W.Fast.tw6496615928446764948 : True := trivial
theorem PySem.W.Fast.tw6774380869258630036 : True := trivial
theorem PySem.W.Fast.tw794387257513425844 : True := trivial
theorem PySem.W.Fast.tw14265673334252586932 : True := trivial
theorem PySem.W.Fast.tw3264913404277590069 : True := trivial
theorem PySem.W.Fast.tw4409352984713366581 : True := trivial
theorem PySem.W.Fast.tw4990839747281898581 : True := trivial
theorem PySem.W.Fast.tw14898021322856482965 : True := trivial
theorem PySem.W.Fast.tw12088428892398123157 : True := trivial
theorem PySem.W.Fast.tw10095466306390827189 : True := trivial
theorem PySem.W.Fast.tw2653326949809618133 : True := trivial
theorem PySem.W.Fast.tw2739823886326951189 : True := trivial
theorem PySem.W.Fast.tw16801517270308944149 : True := trivial
theorem PySem.W.Fast.tw3147476770950177109 : True := trivial
theorem PySem.W.Fast.tw5493213917013504373 : True := trivial
theorem PySem.W.Fast.tw2543919842453103029 : True := trivial
theorem PySem.W.Fast.tw15528432187172006325 : True := trivial
theorem PySem.W.Fast.tw9351247014150598101 : True := trivial
theorem PySem.W.Fast.tw15654479958226604533 : True := trivial
theorem PySem.W.Fast.tw3517965487444980309 : True := trivial
theorem PySem.W.Fast.tw12916378961283936853 : True := trivial
theorem PySem.W.Fast.tw3180086068517006997 : True := trivial
theorem PySem.W.Fast.tw15458586760188015285 : True := trivial
theorem PySem.W.Fast.tw796720590756714197 : True := trivial
theorem PySem.W.Fast.tw13103760628450800341 : True := trivial
theorem PySem.W.Fast.tw11064307168435105557 : True := trivial
theorem PySem.W.Fast.tw1678802598057711445 : True := trivial
theorem PySem.W.Fast.tw9260703930086211445 : True := trivial
theorem PySem.W.Fast.tw5672481047124856693 : True := trivial
theorem PySem.W.Fast.tw3697887366830562197 : True := trivial
theorem PySem.W.Fast.tw4801381858522677141 : True := trivial
theorem PySem.W.Fast.tw18045020533388455861 : True := trivial
theorem PySem.W.Fast.tw15479738621719292885 : True := trivial
theorem PySem.W.Fast.tw5832933666644546517 : True := trivial
theorem PySem.W.Fast.tw696501695960013781 : True := trivial
theorem PySem.W.Fast.tw9852649248630505429 : True := trivial
theorem PySem.W.Fast.tw16606748096828518389 : True := trivial
theorem PySem.W.Fast.tw228032764784370710 : True := trivial
theorem PySem.W.Fast.tw1051404765755965494 : True := trivial
theorem PySem.W.Fast.tw7817937775744729142 : True := trivial
theorem PySem.W.Fast.tw13354865726128245846 : True := trivial
theorem PySem.W.Fast.tw10568891929272715382 : True := trivial
theorem PySem.W.Fast.tw7158601164339457142 : True := trivial
theorem PySem.W.Fast.tw18421371944666393718 : True := trivial
theorem PySem.W.Fast.tw11065969472996418710 : True := trivial
theorem PySem.W.Fast.tw9109956766899004566 : True := trivial
theorem PySem.W.Fast.tw9102249798337777846 : True := trivial
theorem PySem.W.Fast.tw12853819630951231702 : True := trivial
theorem PySem.W.Fast.tw14738012325231625462 : True := trivial
theorem PySem.W.Fast.tw14860208026605794550 : True := trivial
theorem PySem.W.Fast.tw13222976359859514614 : True := trivial
theorem PySem.W.Fast.tw6800783112714156278 : True := trivial
theorem PySem.W.Fast.tw13221578500802580758 : True := trivial
theorem PySem.W.Fast.tw7846642788408474902 : True := trivial
theorem PySem.W.Fast.tw10577135684950781206 : True := trivial
theorem PySem.W.Fast.tw5061900203159715094 : True := trivial
theorem PySem.W.Fast.tw2999683167706586422 : True := trivial
theorem PySem.W.Fast.tw8493507960170669366 : True := trivial
theorem PySem.W.Fast.tw17141310795445245270 : True := trivial
theorem PySem.W.Fast.tw1263538743095881046 : True := trivial
theorem PySem.W.Fast.tw9921719686242116982 : True := trivial
theorem PySem.W.Fast.tw2074592822510921078 : True := trivial
theorem PySem.W.Fast.tw3491512367459764630 : True := trivial
theorem PySem.W.Fast.tw15521548547426035094 : True := trivial
theorem PySem.W.Fast.tw4904541646468823446 : True := trivial
theorem PySem.W.Fast.tw333170555455994326 : True := trivial
theorem PySem.W.Fast.tw18043443248967458294 : True := trivial
theorem PySem.W.Fast.tw10007920622930677270 : True := trivial
theorem PySem.W.Fast.tw3653707468203464246 : True := trivial
theorem PySem.W.Fast.tw15275457275214121526 : True := trivial
theorem PySem.W.Fast.tw5180453319349277270 : True := trivial
theorem PySem.W.Fast.tw17943766175327387222 : True := trivial
theorem PySem.W.Fast.tw5907867742100080246 : True := trivial
theorem PySem.W.Fast.tw18024130129546870390 : True := trivial
theorem PySem.W.Fast.tw11232788398998393494 : True := trivial
theorem PySem.W.Fast.tw4860196787530683062 : True := trivial
theorem PySem.W.Fast.tw8833213533827740406 : True := trivial
theorem PySem.W.Fast.tw5965937070539375382 : True := trivial
theorem PySem.W.Fast.tw5149074280959582998 : True := trivial
theorem PySem.W.Fast.tw12917760182947868438 : True := trivial
theorem PySem.W.Fast.tw11609042438161014614 : True := trivial
theorem PySem.W.Fast.tw13163072051204672342 : True := trivial
theorem PySem.W.Fast.tw7898407583832105814 : True := trivial
theorem PySem.W.Fast.tw8457964004610666358 : True := trivial
theorem PySem.W.Fast.tw10181647820001004470 : True := trivial
theorem PySem.W.Fast.tw17187909022743286742 : True := trivial
theorem PySem.W.Fast.tw2970014259101069270 : True := trivial
theorem PySem.W.Fast.tw16424937695391033334 : True := trivial
theorem PySem.W.Fast.tw7267029558303450135 : True := trivial
theorem PySem.W.Fast.tw14306474382949191735 : True := trivial
theorem PySem.W.Fast.tw6808522101791464503 : True := trivial
theorem PySem.W.Fast.tw13743326454172943447 : True := trivial
theorem PySem.W.Fast.tw10538187333820655703 : True := trivial
theorem PySem.W.Fast.tw13126134589168627799 : True := trivial
theorem PySem.W.Fast.tw5171054659840446583 : True := trivial
theorem PySem.W.Fast.tw1525784196166440055 : True := trivial
theorem PySem.W.Fast.tw13110141023553874071 : True := trivial
theorem PySem.W.Fast.tw15465626305634095287 : True := trivial
theorem PySem.W.Fast.tw14900436454700761303 : True := trivial
theorem PySem.W.Fast.tw12388803390007893239 : True := trivial
theorem PySem.W.Fast.tw1621146786896464151 : True := trivial
theorem PySem.W.Fast.tw8680989947038653719 : True := trivial
theorem PySem.W.Fast.tw15208841653910336791 : True := trivial
theorem PySem.W.Fast.tw478847167979293015 : True := trivial
theorem PySem.W.Fast.tw4039322030119126391 : True := trivial
theorem PySem.W.Fast.tw2975759544028033399 : True := trivial
theorem PySem.W.Fast.tw9890556487006236055 : True := trivial
theorem PySem.W.Fast.tw17038651934047201751 : True := trivial
theorem PySem.W.Fast.tw10986219501525152247 : True := trivial
theorem PySem.W.Fast.tw3801750625661217335 : True := trivial
theorem PySem.W.Fast.tw9027727973641122359 : True := trivial
theorem PySem.W.Fast.tw16058377811810679351 : True := trivial
theorem PySem.W.Fast.tw7198260319668674135 : True := trivial
theorem PySem.W.Fast.tw6446770495716832855 : True := trivial
theorem PySem.W.Fast.tw2173050047491422807 : True := trivial
theorem PySem.W.Fast.tw6465343945709613655 : True := trivial
theorem PySem.W.Fast.tw999931836117044855 : True := trivial
theorem PySem.W.Fast.tw16963448356750188183 : True := trivial
theorem PySem.W.Fast.tw14028944660991962775 : True := trivial
theorem PySem.W.Fast.tw13336768385351597751 : True := trivial
theorem PySem.W.Fast.tw5576530453632635575 : True := trivial
theorem PySem.W.Fast.tw8972806327945155319 : True := trivial
theorem PySem.W.Fast.tw9365551661181657847 : True := trivial
theorem PySem.W.Fast.tw11388230397501092631 : True := trivial
theorem PySem.W.Fast.tw18303037819132803863 : True := trivial
theorem PySem.W.Fast.tw9839648200843742007 : True := trivial
theorem PySem.W.Fast.tw1651554952651430711 : True := trivial
theorem PySem.W.Fast.tw4094430876585750327 : True := trivial
theorem PySem.W.Fast.tw9180086323358012247 : True := trivial
theorem PySem.W.Fast.tw16083102431463090007 : True := trivial
theorem PySem.W.Fast.tw12481356444789962583 : True := trivial
theorem PySem.W.Fast.tw13323900105803580311 : True := trivial
theorem PySem.W.Fast.tw2192791403083992023 : True := trivial
theorem PySem.W.Fast.tw8662595460594628567 : True := trivial
theorem PySem.W.Fast.tw666516415575420919 : True := trivial
theorem PySem.W.Fast.tw18259706405912824856 : True := trivial
theorem PySem.W.Fast.tw13734224479345303576 : True := trivial
theorem PySem.W.Fast.tw7978905126322252888 : True := trivial
theorem PySem.W.Fast.tw3604054484937618520 : True := trivial
theorem PySem.W.Fast.tw12216073434284585048 : True := trivial
theorem PySem.W.Fast.tw5554300940525086840 : True := trivial
theorem PySem.W.Fast.tw16629061604427020472 : True := trivial
theorem PySem.W.Fast.tw8182447148104367288 : True := trivial
theorem PySem.W.Fast.tw8741189689300581560 : True := trivial
theorem PySem.W.Fast.tw9511599654734506200 : True := trivial
theorem PySem.W.Fast.tw5006591537737386232 : True := trivial
theorem PySem.W.Fast.tw12350872418043458808 : True := trivial
theorem PySem.W.Fast.tw4350212288950645016 : True := trivial
theorem PySem.W.Fast.tw443178152863277368 : True := trivial
theorem PySem.W.Fast.tw8052139999527676216 : True := trivial
theorem PySem.W.Fast.tw16009134481009366328 : True := trivial
theorem PySem.W.Fast.tw17946993191577185592 : True := trivial
theorem PySem.W.Fast.tw16325295921800621400 : True := trivial
theorem PySem.W.Fast.tw10948117041690961240 : True := trivial
theorem PySem.W.Fast.tw9739550582326110648 : True := trivial
theorem PySem.W.Fast.tw17412822034945340856 : True := trivial
theorem PySem.W.Fast.tw2593967729352703416 : True := trivial
theorem PySem.W.Fast.tw7309627379665520120 : True := trivial
theorem PySem.W.Fast.tw17650921474012101144 : True := trivial
theorem PySem.W.Fast.tw10013923649080617496 : True := trivial
theorem PySem.W.Fast.tw11986743996238098968 : True := trivial
theorem PySem.W.Fast.tw12143550214313310776 : True := trivial
theorem PySem.W.Fast.tw6209681637688572472 : True := trivial
theorem PySem.W.Fast.tw7795654730957227608 : True := trivial
theorem PySem.W.Fast.tw7072183891778507352 : True := trivial
theorem PySem.W.Fast.tw18244885854913379928 : True := trivial
theorem PySem.W.Fast.tw1558085080244507224 : True := trivial
theorem PySem.W.Fast.tw8675993845905782360 : True := trivial
theorem PySem.W.Fast.tw10629234867695130296 : True := trivial
theorem PySem.W.Fast.tw14177048799954565816 : True := trivial
theorem PySem.W.Fast.tw6946039094493849336 : True := trivial
theorem PySem.W.Fast.tw10064062306393219896 : True := trivial
theorem PySem.W.Fast.tw10542187412891990840 : True := trivial
theorem PySem.W.Fast.tw13266674847630592888 : True := trivial
theorem PySem.W.Fast.tw11488502345016772536 : True := trivial
theorem PySem.W.Fast.tw8168297581916572600 : True := trivial
theorem PySem.W.Fast.tw2697103316013733816 : True := trivial
theorem PySem.W.Fast.tw12895364510890974136 : True := trivial
theorem PySem.W.Fast.tw10596768758673445848 : True := trivial
theorem PySem.W.Fast.tw7721955921315406808 : True := trivial
theorem PySem.W.Fast.tw10002388518946484184 : True := trivial
theorem PySem.W.Fast.tw4989967020593319961 : True := trivial
theorem PySem.W.Fast.tw8076345215425457209 : True := trivial
theorem PySem.W.Fast.tw17797391317557411929 : True := trivial
theorem PySem.W.Fast.tw4965207762510649433 : True := trivial
theorem PySem.W.Fast.tw16392695451010218073 : True := trivial
theorem PySem.W.Fast.tw6118445758090465369 : True := trivial
theorem PySem.W.Fast.tw9778568984101838937 : True := trivial
theorem PySem.W.Fast.tw13879779782659437657 : True := trivial
theorem PySem.W.Fast.tw4250420785823578201 : True := trivial
theorem PySem.W.Fast.tw2633298715077971129 : True := trivial
theorem PySem.W.Fast.tw928921311831246009 : True := trivial
theorem PySem.W.Fast.tw15194934551196945593 : True := trivial
theorem PySem.W.Fast.tw1091171516214004921 : True := trivial
theorem PySem.W.Fast.tw1732837814066938105 : True := trivial
theorem PySem.W.Fast.tw9065452108486981881 : True := trivial
theorem PySem.W.Fast.tw16716941936161963257 : True := trivial
theorem PySem.W.Fast.tw9392552539105907961 : True := trivial
theorem PySem.W.Fast.tw12251637247946118457 : True := trivial
theorem PySem.W.Fast.tw15684972854015781177 : True := trivial
theorem PySem.W.Fast.tw2404872781953954137 : True := trivial
theorem PySem.W.Fast.tw2720458263238409593 : True := trivial
theorem PySem.W.Fast.tw2602625614138771865 : True := trivial
theorem PySem.W.Fast.tw16345794451473463705 : True := trivial
theorem PySem.W.Fast.tw11064078579285459385 : True := trivial
theorem PySem.W.Fast.tw3858548332473189849 : True := trivial
theorem PySem.W.Fast.tw5469487527777897945 : True := trivial
theorem PySem.W.Fast.tw2346858093211167193 : True := trivial
theorem PySem.W.Fast.tw11027297396755049945 : True := trivial
theorem PySem.W.Fast.tw7598118451450861017 : True := trivial
theorem PySem.W.Fast.tw7338413719024598489 : True := trivial
theorem PySem.W.Fast.tw8815315399863269881 : True := trivial
theorem PySem.W.Fast.tw473323707177277977 : True := trivial
theorem PySem.W.Fast.tw9558497177368435225 : True := trivial
theorem PySem.W.Fast.tw3900534097942883865 : True := trivial
theorem PySem.W.Fast.tw1805190909241153049 : True := trivial
theorem PySem.W.Fast.tw2026035714198995545 : True := trivial
theorem PySem.W.Fast.tw432987772018651737 : True := trivial
theorem PySem.W.Fast.tw13680915874247874201 : True := trivial
theorem PySem.W.Fast.tw9256663175370864313 : True := trivial
theorem PySem.W.Fast.tw14632378549616111321 : True := trivial
theorem PySem.W.Fast.tw1574001959050112729 : True := trivial
theorem PySem.W.Fast.tw6073236170583361305 : True := trivial
theorem PySem.W.Fast.tw13367952852063839001 : True := trivial
theorem PySem.W.Fast.tw13491123390888961817 : True := trivial
theorem PySem.W.Fast.tw18022925459547810617 : True := trivial
theorem PySem.W.Fast.tw9277095820387550073 : True := trivial
theorem PySem.W.Fast.tw7115096217754308473 : True := trivial
theorem PySem.W.Fast.tw14074289700654107513 : True := trivial
theorem PySem.W.Fast.tw5460918592853690265 : True := trivial
theorem PySem.W.Fast.tw8022654288298215353 : True := trivial
theorem PySem.W.Fast.tw16809352934449800121 : True := trivial
theorem PySem.W.Fast.tw6378061240857403353 : True := trivial
theorem PySem.W.Fast.tw14138504188148820953 : True := trivial
theorem PySem.W.Fast.tw14807591087573466073 : True := trivial
theorem PySem.W.Fast.tw18082933313095250937 : True := trivial
theorem PySem.W.Fast.tw15145192059379858425 : True := trivial
theorem PySem.W.Fast.tw4607771851850859513 : True := trivial
theorem PySem.W.Fast.tw14302491800765852698 : True := trivial
theorem PySem.W.Fast.tw15947731432212041882 : True := trivial
theorem PySem.W.Fast.tw10876146613648928922 : True := trivial
theorem PySem.W.Fast.tw3240973780890320026 : True := trivial
theorem PySem.W.Fast.tw16728586603992929466 : True := trivial
theorem PySem.W.Fast.tw12556711533509440698 : True := trivial
theorem PySem.W.Fast.tw7765081944098213082 : True := trivial
theorem PySem.W.Fast.tw8174478070767832314 : True := trivial
theorem PySem.W.Fast.tw8243979252366698746 : True := trivial
theorem PySem.W.Fast.tw9107694275740181786 : True := trivial
theorem PySem.W.Fast.tw15265008014603826458 : True := trivial
theorem PySem.W.Fast.tw1862974125921549626 : True := trivial
theorem PySem.W.Fast.tw7476692152218178874 : True := trivial
theorem PySem.W.Fast.tw13567430402321083706 : True := trivial
theorem PySem.W.Fast.tw14522203436549823834 : True := trivial
theorem PySem.W.Fast.tw10709746818503128442 : True := trivial
theorem PySem.W.Fast.tw8205410026379659642 : True := trivial
theorem PySem.W.Fast.tw8727887665620231610 : True := trivial
theorem PySem.W.Fast.tw8771627352541031866 : True := trivial
theorem PySem.W.Fast.tw11988323755199428058 : True := trivial
theorem PySem.W.Fast.tw3565868745113125370 : True := trivial
theorem PySem.W.Fast.tw12339210967680273946 : True := trivial
theorem PySem.W.Fast.tw14956117193705347610 : True := trivial
theorem PySem.W.Fast.tw14871773289957547546 : True := trivial
theorem PySem.W.Fast.tw7120221742932815386 : True := trivial
theorem PySem.W.Fast.tw13889882773686971930 : True := trivial
theorem PySem.W.Fast.tw14935852779173505626 : True := trivial
theorem PySem.W.Fast.tw1742870624918600282 : True := trivial
theorem PySem.W.Fast.tw10466023173469994586 : True := trivial
theorem PySem.W.Fast.tw16832480824633695898 : True := trivial
theorem PySem.W.Fast.tw18229194282478744218 : True := trivial
theorem PySem.W.Fast.tw95767474849690266 : True := trivial
theorem PySem.W.Fast.tw4410658292392414906 : True := trivial
theorem PySem.W.Fast.tw2911725522829594330 : True := trivial
theorem PySem.W.Fast.tw15484596305678932730 : True := trivial
theorem PySem.W.Fast.tw5938711475392831226 : True := trivial
theorem PySem.W.Fast.tw5210132416031127290 : True := trivial
theorem PySem.W.Fast.tw7649629122773173018 : True := trivial
theorem PySem.W.Fast.tw14744579257206172442 : True := trivial
theorem PySem.W.Fast.tw12310636261434750746 : True := trivial
theorem PySem.W.Fast.tw13592168269508412218 : True := trivial
theorem PySem.W.Fast.tw11360390571740994362 : True := trivial
theorem PySem.W.Fast.tw14885080968004051770 : True := trivial
theorem PySem.W.Fast.tw4764255130313107258 : True := trivial
theorem PySem.W.Fast.tw9368199436741880666 : True := trivial
theorem PySem.W.Fast.tw6604805253578083162 : True := trivial
theorem PySem.W.Fast.tw17082590544887712634 : True := trivial
theorem PySem.W.Fast.tw16837970242550610810 : True := trivial
theorem PySem.W.Fast.tw13000136506392203130 : True := trivial
theorem PySem.W.Fast.tw3033711184651119482 : True := trivial
theorem PySem.W.Fast.tw15926464132781807546 : True := trivial
theorem PySem.W.Fast.tw15108282136835890106 : True := trivial
theorem PySem.W.Fast.tw16066245898492424122 : True := trivial
theorem PySem.W.Fast.tw6639320972885597146 : True := trivial
theorem PySem.W.Fast.tw7077435931001141210 : True := trivial
theorem PySem.W.Fast.tw10447717540119129082 : True := trivial
theorem PySem.W.Fast.tw13680541276216590330 : True := trivial
theorem PySem.W.Fast.tw8823451361982911515 : True := trivial
theorem PySem.W.Fast.tw1731918457814726715 : True := trivial
theorem PySem.W.Fast.tw18098245028830436411 : True := trivial
theorem PySem.W.Fast.tw12859526181648090203 : True := trivial
theorem PySem.W.Fast.tw7628210162335063259 : True := trivial
theorem PySem.W.Fast.tw4819094449447257339 : True := trivial
theorem PySem.W.Fast.tw8119713872555707707 : True := trivial
theorem PySem.W.Fast.tw18019746374953683259 : True := trivial
theorem PySem.W.Fast.tw15138423239778112859 : True := trivial
theorem PySem.W.Fast.tw18082872966376600923 : True := trivial
theorem PySem.W.Fast.tw14504074439234604379 : True := trivial
theorem PySem.W.Fast.tw12717274029600199003 : True := trivial
theorem PySem.W.Fast.tw10925503814791583067 : True := trivial
theorem PySem.W.Fast.tw3766892808669066651 : True := trivial
theorem PySem.W.Fast.tw4782214926211219899 : True := trivial
theorem PySem.W.Fast.tw17821382676683524539 : True := trivial
theorem PySem.W.Fast.tw9609257264549831099 : True := trivial
theorem PySem.W.Fast.tw11062973044874770939 : True := trivial
theorem PySem.W.Fast.tw17479177563815443963 : True := trivial
theorem PySem.W.Fast.tw11109291201063991835 : True := trivial
theorem PySem.W.Fast.tw6693408080462332475 : True := trivial
theorem PySem.W.Fast.tw8767357201467932219 : True := trivial
theorem PySem.W.Fast.tw1735805970276247131 : True := trivial
theorem PySem.W.Fast.tw1573433483612356187 : True := trivial
theorem PySem.W.Fast.tw1481453791294625403 : True := trivial
theorem PySem.W.Fast.tw2683231958321533595 : True := trivial
theorem PySem.W.Fast.tw8781330399618251419 : True := trivial
theorem PySem.W.Fast.tw16750240867269536411 : True := trivial
theorem PySem.W.Fast.tw17612241555528419003 : True := trivial
theorem PySem.W.Fast.tw11416292253125219003 : True := trivial
theorem PySem.W.Fast.tw5389752857105285883 : True := trivial
theorem PySem.W.Fast.tw4112450890582639355 : True := trivial
theorem PySem.W.Fast.tw9901821864383078139 : True := trivial
theorem PySem.W.Fast.tw14299266969637727003 : True := trivial
theorem PySem.W.Fast.tw14320438060071147291 : True := trivial
theorem PySem.W.Fast.tw14684008219825727259 : True := trivial
theorem PySem.W.Fast.tw1194204213110829851 : True := trivial
theorem PySem.W.Fast.tw15861399320819238779 : True := trivial
theorem PySem.W.Fast.tw17435964176447720315 : True := trivial
theorem PySem.W.Fast.tw17276208719142422459 : True := trivial
theorem PySem.W.Fast.tw15369152118793347035 : True := trivial
theorem PySem.W.Fast.tw10772810727859400667 : True := trivial
theorem PySem.W.Fast.tw3092396838751657947 : True := trivial
theorem PySem.W.Fast.tw8574612379154989051 : True := trivial
theorem PySem.W.Fast.tw9647037467044209659 : True := trivial
theorem PySem.W.Fast.tw4372689555568446492 : True := trivial
theorem PySem.W.Fast.tw14285463031337503772 : True := trivial
theorem PySem.W.Fast.tw12543612310542641180 : True := trivial
theorem PySem.W.Fast.tw3265996013305041980 : True := trivial
theorem PySem.W.Fast.tw14007475683437666364 : True := trivial
theorem PySem.W.Fast.tw11199415683404100668 : True := trivial
theorem PySem.W.Fast.tw10936803536100786300 : True := trivial
theorem PySem.W.Fast.tw5701721377828557948 : True := trivial
theorem PySem.W.Fast.tw1708613992627820668 : True := trivial
theorem PySem.W.Fast.tw13181556198400592124 : True := trivial
theorem PySem.W.Fast.tw10049008691405548860 : True := trivial
theorem PySem.W.Fast.tw498103429064576348 : True := trivial
theorem PySem.W.Fast.tw7056592708016859516 : True := trivial
theorem PySem.W.Fast.tw5084857231341724060 : True := trivial
theorem PySem.W.Fast.tw4951166442402882972 : True := trivial
theorem PySem.W.Fast.tw5422283346119418268 : True := trivial
theorem PySem.W.Fast.tw12094414297113430460 : True := trivial
theorem PySem.W.Fast.tw8407226742569493948 : True := trivial
theorem PySem.W.Fast.tw16038318596446227964 : True := trivial
theorem PySem.W.Fast.tw3028091868252344860 : True := trivial
theorem PySem.W.Fast.tw973418449676811804 : True := trivial
theorem PySem.W.Fast.tw16342565601020245532 : True := trivial
theorem PySem.W.Fast.tw3237793096802248252 : True := trivial
theorem PySem.W.Fast.tw7994107313295403612 : True := trivial
theorem PySem.W.Fast.tw11498328126088676988 : True := trivial
theorem PySem.W.Fast.tw14485455974190890620 : True := trivial
theorem PySem.W.Fast.tw9921675413151906428 : True := trivial
theorem PySem.W.Fast.tw16876118144400885404 : True := trivial
theorem PySem.W.Fast.tw7721123085176069788 : True := trivial
theorem PySem.W.Fast.tw11105222943780259516 : True := trivial
theorem PySem.W.Fast.tw16007638535780615900 : True := trivial
theorem PySem.W.Fast.tw1564742332381665052 : True := trivial
theorem PySem.W.Fast.tw9318018306793419548 : True := trivial
theorem PySem.W.Fast.tw7481070957665115932 : True := trivial
theorem PySem.W.Fast.tw15806649258952387356 : True := trivial
theorem PySem.W.Fast.tw9536351313891653436 : True := trivial
theorem PySem.W.Fast.tw9445895426825689948 : True := trivial
theorem PySem.W.Fast.tw13825535678874528604 : True := trivial
theorem PySem.W.Fast.tw11962206792604832604 : True := trivial
theorem PySem.W.Fast.tw9012226336706897788 : True := trivial
theorem PySem.W.Fast.tw114189817358927740 : True := trivial
theorem PySem.W.Fast.tw9333324320336490396 : True := trivial
theorem PySem.W.Fast.tw18211912354142854108 : True := trivial
theorem PySem.W.Fast.tw14571131303675563004 : True := trivial
theorem PySem.W.Fast.tw10576983538331319325 : True := trivial
theorem PySem.W.Fast.tw3766514397321567389 : True := trivial
theorem PySem.W.Fast.tw15865235661406543037 : True := trivial
theorem PySem.W.Fast.tw1138948683959480541 : True := trivial
theorem PySem.W.Fast.tw16730885843977838845 : True := trivial
theorem PySem.W.Fast.tw17848736615731555581 : True := trivial
theorem PySem.W.Fast.tw6093299619305953565 : True := trivial
theorem PySem.W.Fast.tw18335619732395113757 : True := trivial
theorem PySem.W.Fast.tw13896884947572432189 : True := trivial
theorem PySem.W.Fast.tw5262807336029014333 : True := trivial
theorem PySem.W.Fast.tw17565613339095003485 : True := trivial
theorem PySem.W.Fast.tw8119229271776113021 : True := trivial
theorem PySem.W.Fast.tw13999593327369503101 : True := trivial
theorem PySem.W.Fast.tw14640836331590866301 : True := trivial
theorem PySem.W.Fast.tw8968702054199214493 : True := trivial
theorem PySem.W.Fast.tw11874144911628062109 : True := trivial
theorem PySem.W.Fast.tw11995227664583937437 : True := trivial
theorem PySem.W.Fast.tw967335811998677405 : True := trivial
theorem PySem.W.Fast.tw11967111626879090109 : True := trivial
theorem PySem.W.Fast.tw10831108716428892637 : True := trivial
theorem PySem.W.Fast.tw11524702470441540093 : True := trivial
theorem PySem.W.Fast.tw11661317015467023869 : True := trivial
theorem PySem.W.Fast.tw12548099505079161373 : True := trivial
theorem PySem.W.Fast.tw16193993925058294301 : True := trivial
theorem PySem.W.Fast.tw5143208681716583997 : True := trivial
theorem PySem.W.Fast.tw13999012369825884733 : True := trivial
theorem PySem.W.Fast.tw14449967413833706077 : True := trivial
theorem PySem.W.Fast.tw3489729545624817277 : True := trivial
theorem PySem.W.Fast.tw4809678201761436285 : True := trivial
theorem PySem.W.Fast.tw13982085319817129629 : True := trivial
theorem PySem.W.Fast.tw16550221019069808285 : True := trivial
theorem PySem.W.Fast.tw6893406002132329181 : True := trivial
theorem PySem.W.Fast.tw16737867687844973309 : True := trivial
theorem PySem.W.Fast.tw3877647393398459165 : True := trivial
theorem PySem.W.Fast.tw3365236887679784733 : True := trivial
theorem PySem.W.Fast.tw4996803926836260669 : True := trivial
theorem PySem.W.Fast.tw11164192346814776157 : True := trivial
theorem PySem.W.Fast.tw2091883948620107613 : True := trivial
theorem PySem.W.Fast.tw15223772636845494141 : True := trivial
theorem PySem.W.Fast.tw10894891749262841725 : True := trivial
theorem PySem.W.Fast.tw2576858675917807517 : True := trivial
theorem PySem.W.Fast.tw17613391484567241661 : True := trivial
theorem PySem.W.Fast.tw465386123963491261 : True := trivial
theorem PySem.W.Fast.tw1673288248524171229 : True := trivial
theorem PySem.W.Fast.tw4965488429975113725 : True := trivial
theorem PySem.W.Fast.tw3619199892336761853 : True := trivial
theorem PySem.W.Fast.tw821298191434615838 : True := trivial
theorem PySem.W.Fast.tw4804251733860227134 : True := trivial
theorem PySem.W.Fast.tw3531453015435608158 : True := trivial
theorem PySem.W.Fast.tw16503773422698633310 : True := trivial
theorem PySem.W.Fast.tw5432764076573268094 : True := trivial
theorem PySem.W.Fast.tw834753880770092158 : True := trivial
theorem PySem.W.Fast.tw11902596503490607230 : True := trivial
theorem PySem.W.Fast.tw9488975910286935166 : True := trivial
theorem PySem.W.Fast.tw11809821088613355646 : True := trivial
theorem PySem.W.Fast.tw10093242728501564574 : True := trivial
theorem PySem.W.Fast.tw15404603707434952862 : True := trivial
theorem PySem.W.Fast.tw17152249194961725630 : True := trivial
theorem PySem.W.Fast.tw7263821369692103934 : True := trivial
theorem PySem.W.Fast.tw6512317805365951742 : True := trivial
theorem PySem.W.Fast.tw16934711584380153118 : True := trivial
theorem PySem.W.Fast.tw3027236234419108126 : True := trivial
theorem PySem.W.Fast.tw2016856452573908286 : True := trivial
theorem PySem.W.Fast.tw2131127426462588254 : True := trivial
theorem PySem.W.Fast.tw10247799951156254078 : True := trivial
theorem PySem.W.Fast.tw11977427590368371070 : True := trivial
theorem PySem.W.Fast.tw8748956863855054270 : True := trivial
theorem PySem.W.Fast.tw5984122103563014590 : True := trivial
theorem PySem.W.Fast.tw2105788012629268958 : True := trivial
theorem PySem.W.Fast.tw6659417453399255518 : True := trivial
theorem PySem.W.Fast.tw5421882185587696158 : True := trivial
theorem PySem.W.Fast.tw11945325020033328702 : True := trivial
theorem PySem.W.Fast.tw13456084714082775646 : True := trivial
theorem PySem.W.Fast.tw16176908964683012702 : True := trivial
theorem PySem.W.Fast.tw874599559558141566 : True := trivial
theorem PySem.W.Fast.tw4593657515890071166 : True := trivial
theorem PySem.W.Fast.tw11791133527532847774 : True := trivial
theorem PySem.W.Fast.tw13254466725014952606 : True := trivial
theorem PySem.W.Fast.tw28394887101086366 : True := trivial
theorem PySem.W.Fast.tw4675523873910052542 : True := trivial
theorem PySem.W.Fast.tw7723161867381538494 : True := trivial
theorem PySem.W.Fast.tw9724783342535315166 : True := trivial
theorem PySem.W.Fast.tw1476718029550212830 : True := trivial
theorem PySem.W.Fast.tw5153596018567094046 : True := trivial
theorem PySem.W.Fast.tw7219435563443200798 : True := trivial
theorem PySem.W.Fast.tw4860187300176302942 : True := trivial
theorem PySem.W.Fast.tw6762766620607198046 : True := trivial
theorem PySem.W.Fast.tw15584883626759994206 : True := trivial
theorem PySem.W.Fast.tw2061270671939392350 : True := trivial
theorem PySem.W.Fast.tw968784458926670750 : True := trivial
theorem PySem.W.Fast.tw8980260928016075678 : True := trivial
theorem PySem.W.Fast.tw7401810480147420062 : True := trivial
theorem PySem.W.Fast.tw13928071064316410782 : True := trivial
theorem PySem.W.Fast.tw7163111451605119934 : True := trivial
theorem PySem.W.Fast.tw3393165965796965310 : True := trivial
theorem PySem.W.Fast.tw14339547417109317598 : True := trivial
theorem PySem.W.Fast.tw9493164171759862782 : True := trivial
theorem PySem.W.Fast.tw18073771770428695583 : True := trivial
theorem PySem.W.Fast.tw7145971605739720735 : True := trivial
theorem PySem.W.Fast.tw16148035549247110175 : True := trivial
theorem PySem.W.Fast.tw1674456554278784063 : True := trivial
theorem PySem.W.Fast.tw11779354756256342079 : True := trivial
theorem PySem.W.Fast.tw16596868778288132159 : True := trivial
theorem PySem.W.Fast.tw10216198565530385503 : True := trivial
theorem PySem.W.Fast.tw12928295336849863775 : True := trivial
theorem PySem.W.Fast.tw4735507032090447007 : True := trivial
theorem PySem.W.Fast.tw17245952559671793823 : True := trivial
theorem PySem.W.Fast.tw6205441159708695711 : True := trivial
theorem PySem.W.Fast.tw1203431048627245247 : True := trivial
theorem PySem.W.Fast.tw7114122849986171071 : True := trivial
theorem PySem.W.Fast.tw536954409044833471 : True := trivial
theorem PySem.W.Fast.tw4690382239765113055 : True := trivial
theorem PySem.W.Fast.tw13646413731247534303 : True := trivial
theorem PySem.W.Fast.tw13382619659625795839 : True := trivial
theorem PySem.W.Fast.tw13152227915098534207 : True := trivial
theorem PySem.W.Fast.tw12687283272245695807 : True := trivial
theorem PySem.W.Fast.tw7588930820713328991 : True := trivial
theorem PySem.W.Fast.tw10984450606084025695 : True := trivial
theorem PySem.W.Fast.tw8820122254621151647 : True := trivial
theorem PySem.W.Fast.tw2096154013220381087 : True := trivial
theorem PySem.W.Fast.tw5598005720341808607 : True := trivial
theorem PySem.W.Fast.tw3202275569469784671 : True := trivial
theorem PySem.W.Fast.tw4239159645846468191 : True := trivial
theorem PySem.W.Fast.tw8526331429256608383 : True := trivial
theorem PySem.W.Fast.tw2177718438241582751 : True := trivial
theorem PySem.W.Fast.tw13198164762074239647 : True := trivial
theorem PySem.W.Fast.tw15906754224888490719 : True := trivial
theorem PySem.W.Fast.tw10821556169256558399 : True := trivial
theorem PySem.W.Fast.tw18361158888235589439 : True := trivial
theorem PySem.W.Fast.tw15531484147891462975 : True := trivial
theorem PySem.W.Fast.tw5525322372072781695 : True := trivial
theorem PySem.W.Fast.tw15435587822233286527 : True := trivial
theorem PySem.W.Fast.tw6158965455308885919 : True := trivial
theorem PySem.W.Fast.tw3655281745800970143 : True := trivial
theorem PySem.W.Fast.tw5698597852443497439 : True := trivial
theorem PySem.W.Fast.tw7341511021319825407 : True := trivial
theorem PySem.W.Fast.tw14858213493578020863 : True := trivial
theorem PySem.W.Fast.tw12100823114481422335 : True := trivial
theorem PySem.W.Fast.tw16098300834255534079 : True := trivial
open PySem PySem.W PyProof.Rows
set_option maxRecDepth 100000 in
set_option maxHeartbeats 0 in
theorem PySem.Challenge.cw_kettlerow_k21_skimmed_holds : PySem.Challenge.rw_kettlerow_k21_skimmed.Holds := by
  w_on; o_law; k_head; (case hw => w_witness2)
  k_fill
  refine KR.walk_ofT (l := PySem.Challenge.rw_kettlerow_k21_skimmed) (n := 63) (k := 12) (x := "_law_script") (sp := fun w Ps => KR.sp_p_law _ Ps) ["is_name", "_can_be_kettles", "_can_be_moulds"] rfl (by decide) rfl ⟨rfl, by decide, by decide⟩ (fun w h Y => PySem.W.kIn_of Y) (by decide +kernel) ?F (fun _ _ _ a ns hl hT hS => ⟨a, ns, rfl, hS, hl, hT, fun _ => rfl⟩)
  case F =>
    intro w mg fa h KX G hmg
    refine' KR.all_mk KX G hmg ?g_Row ?pg_Row ?hd_Row ?po_Row ?sa_Row ?mk_Row ?kc_Row ?nf_Row_kettles ?nf_Row_moulds ?g_SameRow ?pg_SameRow ?hd_SameRow ?po_SameRow ?sa_SameRow ?mk_SameRow ?kc_SameRow ?nf_SameRow_kettles ?nf_SameRow_moulds ?g_Kettle ?pg_Kettle ?hd_Kettle ?po_Kettle ?sa_Kettle ?mk_Kettle ?kc_Kettle ?nf_Kettle_room ?nf_Kettle_fire ?nf_Kettle_mark ?nf_Kettle_juice ?nf_Kettle_at_work ?g_Kettles ?pg_Kettles ?hd_Kettles ?po_Kettles ?sa_Kettles ?mk_Kettles ?kc_Kettles ?nf_Kettles__row ?nf_Kettles__table ?nf_Kettles__hour ?nf_Kettles__boiled ?a0 ?l0 ?c0 ?k0 ?i0 ?a1 ?l1 ?c1 ?k1 ?i1 ?a2 ?l2 ?c2 ?k2 ?i2 ?a3 ?l3 ?c3 ?k3 ?i3 ?a4 ?l4 ?c4 ?k4 ?i4 ?a5 ?l5 ?c5 ?k5 ?i5 ?a6 ?l6 ?c6 ?k6 ?i6 ?a7 ?l7 ?c7 ?k7 ?i7 ?a8 ?l8 ?c8 ?k8 ?i8 ?a9 ?l9 ?c9 ?k9 ?i9 ?a10 ?l10 ?c10 ?k10 ?i10 ?a11 ?l11 ?c11 ?k11 ?i11 ?a12 ?l12 ?c12 ?k12 ?i12 ?a13 ?l13 ?c13 ?k13 ?i13 ?a14 ?l14 ?c14 ?k14 ?i14 ?a15 ?l15 ?c15 ?k15 ?i15 ?a16 ?l16 ?c16 ?k16 ?i16 ?a17 ?l17 ?c17 ?k17 ?i17 ?a18 ?l18 ?c18 ?k18 ?i18 ?a19 ?l19 ?c19 ?k19 ?i19 ?a20 ?l20 ?c20 ?k20 ?i20 ?a21 ?l21 ?c21 ?k21 ?i21 ?a22 ?l22 ?c22 ?k22 ?i22 ?a23 ?l23 ?c23 ?k23 ?a24 ?l24 ?c24 ?k24 ?a25 ?l25 ?c25 ?k25 ?a26 ?l26 ?c26 ?k26 ?a27 ?l27 ?c27 ?k27 ?a28 ?l28 ?c28 ?k28 ?a29 ?l29 ?c29 ?k29 ?a30 ?l30 ?c30 ?k30 ?a31 ?l31 ?c31 ?k31 ?a32 ?l32 ?c32 ?k32 ?a33 ?l33 ?c33 ?k33 ?a34 ?l34 ?c34 ?k34 ?a35 ?l35 ?c35 ?k35 ?a36 ?l36 ?c36 ?k36 ?a37 ?l37 ?c37 ?k37 ?a38 ?l38 ?c38 ?k38 ?a39 ?l39 ?c39 ?k39 ?a40 ?l40 ?c40 ?k40 ?q40 ?p40 ?n40 ?a41 ?l41 ?c41 ?k41 ?a42 ?l42 ?c42 ?k42 ?a43 ?l43 ?c43 ?k43 ?a44 ?l44 ?c44 ?k44 ?q44 ?p44 ?n44 ?a45 ?l45 ?c45 ?k45 ?q45 ?p45 ?n45 ?a46 ?l46 ?c46 ?k46 ?a47 ?l47 ?c47 ?k47 ?a48 ?l48 ?c48 ?k48 ?a49 ?l49 ?c49 ?k49 ?a50 ?l50 ?c50 ?k50 ?a51 ?l51 ?c51 ?k51 ?a52 ?l52 ?c52 ?k52 ?a53 ?l53 ?c53 ?k53 ?a54 ?l54 ?c54 ?k54 ?a55 ?l55 ?c55 ?k55 ?a56 ?l56 ?c56 ?k56 ?a57 ?l57 ?c57 ?k57 ?a58 ?l58 ?c58 ?k58 ?a59 ?l59 ?c59 ?k59 ?a60 ?l60 ?c60 ?k60 ?a61 ?l61 ?c61 ?k61 ?a62 ?l62 ?c62 ?k62 ?a63 ?l63 ?c63 ?k63 ?a64 ?l64 ?c64 ?k64 ?a65 ?l65 ?c65 ?k65 ?a66 ?l66 ?c66 ?k66 ?a67 ?l67 ?c67 ?k67 ?a68 ?l68 ?c68 ?k68 ?a69 ?l69 ?c69 ?k69 ?a70 ?l70 ?c70 ?k70 ?a71 ?l71 ?c71 ?k71 ?a72 ?l72 ?c72 ?k72 ?a73 ?l73 ?c73 ?k73 ?a74 ?l74 ?c74 ?k74 ?a75 ?l75 ?c75 ?k75 ?a76 ?l76 ?c76 ?k76 ?a77 ?l77 ?c77 ?k77 ?a78 ?l78 ?c78 ?k78 ?a79 ?l79 ?c79 ?k79 ?a80 ?l80 ?c80 ?k80 ?a81 ?l81 ?c81 ?k81 ?a82 ?l82 ?c82 ?k82 ?a83 ?l83 ?c83 ?k83 ?a84 ?l84 ?c84 ?k84 ?a85 ?l85 ?c85 ?k85 ?a86 ?l86 ?c86 ?k86 ?a87 ?l87 ?c87 ?k87 ?z_ValueError ?z_abs ?z_all ?z_bool ?z_dict ?z_divmod ?z_int ?z_isinstance ?z_len ?z_list ?z_max ?z_min ?z_range ?z_set ?z_str ?z_tuple ?z_zip ?z_gcd ?z_MOST_LETTERS ?z_MOST_KETTLES ?z_MOST_MOULDS ?z_MOST_ROOM ?z_MOST_FIRE ?z_MOST_MARK_BOTTOM ?z_MOST_DRIP_BOTTOM ?z_MOST_BOTTOM ?y_BoilError ?y_NoKettle ?y_NoRoom ?y_NoShare ?y_Empty ?y_Same ?y_Stopped ?y_InWork ?y_BadDeed ?y_BadFrac ?y_BadKettles ?y_BadMoulds ?y_BadRow ?y_Cured ?y_NoHour ?y_NoMould ?y_NoSteady ?y_NoTelling ?y_NotCured ?y_NotReady ?y_TooStrong ?xL_NoKettle ?xsa_NoKettle ?xex_NoKettle ?xty_NoKettle ?xk_NoKettle ?xi_NoKettle ?xti_NoKettle ?xl_NoKettle ?xc_NoKettle ?xki_NoKettle ?ecl_NoKettle ?ega_NoKettle ?egg_NoKettle ?ecs_NoKettle ?ege_NoKettle ?etk_NoKettle ?eob_NoKettle ?edi_NoKettle ?efw_NoKettle ?ern_NoKettle ?efc_NoKettle ?efl_NoKettle ?xL_NoRoom ?xsa_NoRoom ?xex_NoRoom ?xty_NoRoom ?xk_NoRoom ?xi_NoRoom ?xti_NoRoom ?xl_NoRoom ?xc_NoRoom ?xki_NoRoom ?ecl_NoRoom ?ega_NoRoom ?egg_NoRoom ?ecs_NoRoom ?ege_NoRoom ?etk_NoRoom ?eob_NoRoom ?edi_NoRoom ?efw_NoRoom ?ern_NoRoom ?efc_NoRoom ?efl_NoRoom ?xL_NoShare ?xsa_NoShare ?xex_NoShare ?xty_NoShare ?xk_NoShare ?xi_NoShare ?xti_NoShare ?xl_NoShare ?xc_NoShare ?xki_NoShare ?ecl_NoShare ?ega_NoShare ?egg_NoShare ?ecs_NoShare ?ege_NoShare ?etk_NoShare ?eob_NoShare ?edi_NoShare ?efw_NoShare ?ern_NoShare ?efc_NoShare ?efl_NoShare ?xL_Empty ?xsa_Empty ?xex_Empty ?xty_Empty ?xk_Empty ?xi_Empty ?xti_Empty ?xl_Empty ?xc_Empty ?xki_Empty ?ecl_Empty ?ega_Empty ?egg_Empty ?ecs_Empty ?ege_Empty ?etk_Empty ?eob_Empty ?edi_Empty ?efw_Empty ?ern_Empty ?efc_Empty ?efl_Empty ?xL_Same ?xsa_Same ?xex_Same ?xty_Same ?xk_Same ?xi_Same ?xti_Same ?xl_Same ?xc_Same ?xki_Same ?ecl_Same ?ega_Same ?egg_Same ?ecs_Same ?ege_Same ?etk_Same ?eob_Same ?edi_Same ?efw_Same ?ern_Same ?efc_Same ?efl_Same ?xL_Stopped ?xsa_Stopped ?xex_Stopped ?xty_Stopped ?xk_Stopped ?xi_Stopped ?xti_Stopped ?xl_Stopped ?xc_Stopped ?xki_Stopped ?ecl_Stopped ?ega_Stopped ?egg_Stopped ?ecs_Stopped ?ege_Stopped ?etk_Stopped ?eob_Stopped ?edi_Stopped ?efw_Stopped ?ern_Stopped ?efc_Stopped ?efl_Stopped ?xL_InWork ?xsa_InWork ?xex_InWork ?xty_InWork ?xk_InWork ?xi_InWork ?xti_InWork ?xl_InWork ?xc_InWork ?xki_InWork ?ecl_InWork ?ega_InWork ?egg_InWork ?ecs_InWork ?ege_InWork ?etk_InWork ?eob_InWork ?edi_InWork ?efw_InWork ?ern_InWork ?efc_InWork ?efl_InWork ?ic_BoilError ?it_BoilError ?ic_BadDeed ?it_BadDeed ?ic_BadFrac ?it_BadFrac ?ic_BadKettles ?it_BadKettles ?ic_BadMoulds ?it_BadMoulds ?ic_BadRow ?it_BadRow ?ic_Cured ?it_Cured ?ic_NoHour ?it_NoHour ?ic_NoMould ?it_NoMould ?ic_NoSteady ?it_NoSteady ?ic_NoTelling ?it_NoTelling ?ic_NotCured ?it_NotCured ?ic_NotReady ?it_NotReady ?ic_TooStrong ?it_TooStrong ?ibx ?su_NoKettle_BoilError ?su_NoRoom_BoilError ?su_NoShare_BoilError ?su_Empty_BoilError ?su_Same_BoilError ?su_Stopped_BoilError ?su_InWork_BoilError ?su_NoKettle_NoKettle ?su_NoKettle_NoRoom ?su_NoKettle_NoShare ?su_NoKettle_Empty ?su_NoKettle_Same ?su_NoKettle_Stopped ?su_NoKettle_InWork ?su_NoKettle_BadDeed ?su_NoKettle_BadFrac ?su_NoKettle_BadKettles ?su_NoKettle_BadMoulds ?su_NoKettle_BadRow ?su_NoKettle_Cured ?su_NoKettle_NoHour ?su_NoKettle_NoMould ?su_NoKettle_NoSteady ?su_NoKettle_NoTelling ?su_NoKettle_NotCured ?su_NoKettle_NotReady ?su_NoKettle_TooStrong ?su_NoRoom_NoKettle ?su_NoRoom_NoRoom ?su_NoRoom_NoShare ?su_NoRoom_Empty ?su_NoRoom_Same ?su_NoRoom_Stopped ?su_NoRoom_InWork ?su_NoRoom_BadDeed ?su_NoRoom_BadFrac ?su_NoRoom_BadKettles ?su_NoRoom_BadMoulds ?su_NoRoom_BadRow ?su_NoRoom_Cured ?su_NoRoom_NoHour ?su_NoRoom_NoMould ?su_NoRoom_NoSteady ?su_NoRoom_NoTelling ?su_NoRoom_NotCured ?su_NoRoom_NotReady ?su_NoRoom_TooStrong ?su_NoShare_NoKettle ?su_NoShare_NoRoom ?su_NoShare_NoShare ?su_NoShare_Empty ?su_NoShare_Same ?su_NoShare_Stopped ?su_NoShare_InWork ?su_NoShare_BadDeed ?su_NoShare_BadFrac ?su_NoShare_BadKettles ?su_NoShare_BadMoulds ?su_NoShare_BadRow ?su_NoShare_Cured ?su_NoShare_NoHour ?su_NoShare_NoMould ?su_NoShare_NoSteady ?su_NoShare_NoTelling ?su_NoShare_NotCured ?su_NoShare_NotReady ?su_NoShare_TooStrong ?su_Empty_NoKettle ?su_Empty_NoRoom ?su_Empty_NoShare ?su_Empty_Empty ?su_Empty_Same ?su_Empty_Stopped ?su_Empty_InWork ?su_Empty_BadDeed ?su_Empty_BadFrac ?su_Empty_BadKettles ?su_Empty_BadMoulds ?su_Empty_BadRow ?su_Empty_Cured ?su_Empty_NoHour ?su_Empty_NoMould ?su_Empty_NoSteady ?su_Empty_NoTelling ?su_Empty_NotCured ?su_Empty_NotReady ?su_Empty_TooStrong ?su_Same_NoKettle ?su_Same_NoRoom ?su_Same_NoShare ?su_Same_Empty ?su_Same_Same ?su_Same_Stopped ?su_Same_InWork ?su_Same_BadDeed ?su_Same_BadFrac ?su_Same_BadKettles ?su_Same_BadMoulds ?su_Same_BadRow ?su_Same_Cured ?su_Same_NoHour ?su_Same_NoMould ?su_Same_NoSteady ?su_Same_NoTelling ?su_Same_NotCured ?su_Same_NotReady ?su_Same_TooStrong ?su_Stopped_NoKettle ?su_Stopped_NoRoom ?su_Stopped_NoShare ?su_Stopped_Empty ?su_Stopped_Same ?su_Stopped_Stopped ?su_Stopped_InWork ?su_Stopped_BadDeed ?su_Stopped_BadFrac ?su_Stopped_BadKettles ?su_Stopped_BadMoulds ?su_Stopped_BadRow ?su_Stopped_Cured ?su_Stopped_NoHour ?su_Stopped_NoMould ?su_Stopped_NoSteady ?su_Stopped_NoTelling ?su_Stopped_NotCured ?su_Stopped_NotReady ?su_Stopped_TooStrong ?su_InWork_NoKettle ?su_InWork_NoRoom ?su_InWork_NoShare ?su_InWork_Empty ?su_InWork_Same ?su_InWork_Stopped ?su_InWork_InWork ?su_InWork_BadDeed ?su_InWork_BadFrac ?su_InWork_BadKettles ?su_InWork_BadMoulds ?su_InWork_BadRow ?su_InWork_Cured ?su_InWork_NoHour ?su_InWork_NoMould ?su_InWork_NoSteady ?su_InWork_NoTelling ?su_InWork_NotCured ?su_InWork_NotReady ?su_InWork_TooStrong ?ive_NoKettle ?ive_NoRoom ?ive_NoShare ?ive_Empty ?ive_Same ?ive_Stopped ?ive_InWork ?z_NOUGHT ?l_NOUGHT ?z_ONE ?l_ONE ?z_NOTHING ?l_NOTHING ?lx_NOTHING ?ly_NOTHING
    (case g_Row => k_is)
    (case pg_Row => k_is)
    (case hd_Row => k_is)
    (case po_Row => k_is)
    (case sa_Row => k_is)
    (case mk_Row => k_is)
    (case kc_Row => k_is)
    (case nf_Row_kettles => k_is)
    (case nf_Row_moulds => k_is)
    (case g_SameRow => k_is)
    (case pg_SameRow => k_is)
    (case hd_SameRow => k_is)
    (case po_SameRow => k_is)
    (case sa_SameRow => k_is)
    (case mk_SameRow => k_is)
    (case kc_SameRow => k_is)
    (case nf_SameRow_kettles => k_is)
    (case nf_SameRow_moulds => k_is)
    (case g_Kettle => k_is)
    (case pg_Kettle => k_is)
    (case hd_Kettle => k_is)
    (case po_Kettle => k_is)
    (case sa_Kettle => k_is)
    (case mk_Kettle => k_is)
    (case kc_Kettle => k_is)
    (case nf_Kettle_room => k_is)
    (case nf_Kettle_fire => k_is)
    (case nf_Kettle_mark => k_is)
    (case nf_Kettle_juice => k_is)
    (case nf_Kettle_at_work => k_is)
    (case g_Kettles => k_is)
    (case pg_Kettles => k_is)
    (case hd_Kettles => k_is)
    (case po_Kettles => k_is)
    (case sa_Kettles => k_is)
    (case mk_Kettles => k_is)
    (case kc_Kettles => k_is)
    (case nf_Kettles__row => k_is)
    (case nf_Kettles__table => k_is)
    (case nf_Kettles__hour => k_is)
    (case nf_Kettles__boiled => k_is)
    (case a0 => k_is)
    (case l0 => k_is)
    (case c0 => k_is)
    (case k0 => k_is)
    (case i0 => k_is)
    (case a1 => k_is)
    (case l1 => k_is)
    (case c1 => k_is)
    (case k1 => k_is)
    (case i1 => k_is)
    (case a2 => k_is)
    (case l2 => k_is)
    (case c2 => k_is)
    (case k2 => k_is)
    (case i2 => k_is)
    (case a3 => k_is)
    (case l3 => k_is)
    (case c3 => k_is)
    (case k3 => k_is)
    (case i3 => k_is)
    (case a4 => k_is)
    (case l4 => k_is)
    (case c4 => k_is)
    (case k4 => k_is)
    (case i4 => k_is)
    (case a5 => k_is)
    (case l5 => k_is)
    (case c5 => k_is)
    (case k5 => k_is)
    (case i5 => k_is)
    (case a6 => k_is)
    (case l6 => k_is)
    (case c6 => k_is)
    (case k6 => k_is)
    (case i6 => k_is)
    (case a7 => k_is)
    (case l7 => k_is)
    (case c7 => k_is)
    (case k7 => k_is)
    (case i7 => k_is)
    (case a8 => k_is)
    (case l8 => k_is)
    (case c8 => k_is)
    (case k8 => k_is)
    (case i8 => k_is)
    (case a9 => k_is)
    (case l9 => k_is)
    (case c9 => k_is)
    (case k9 => k_is)
    (case i9 => k_is)
    (case a10 => k_is)
    (case l10 => k_is)
    (case c10 => k_is)
    (case k10 => k_is)
    (case i10 => k_is)
    (case a11 => k_is)
    (case l11 => k_is)
    (case c11 => k_is)
    (case k11 => k_is)
    (case i11 => k_is)
    (case a12 => k_is)
    (case l12 => k_is)
    (case c12 => k_is)
    (case k12 => k_is)
    (case i12 => k_is)
    (case a13 => k_is)
    (case l13 => k_is)
    (case c13 => k_is)
    (case k13 => k_is)
    (case i13 => k_is)
    (case a14 => k_is)
    (case l14 => k_is)
    (case c14 => k_is)
    (case k14 => k_is)
    (case i14 => k_is)
    (case a15 => k_is)
    (case l15 => k_is)
    (case c15 => k_is)
    (case k15 => k_is)
    (case i15 => k_is)
    (case a16 => k_is)
    (case l16 => k_is)
    (case c16 => k_is)
    (case k16 => k_is)
    (case i16 => k_is)
    (case a17 => k_is)
    (case l17 => k_is)
    (case c17 => k_is)
    (case k17 => k_is)
    (case i17 => k_is)
    (case a18 => k_is)
    (case l18 => k_is)
    (case c18 => k_is)
    (case k18 => k_is)
    (case i18 => k_is)
    (case a19 => k_is)
    (case l19 => k_is)
    (case c19 => k_is)
    (case k19 => k_is)
    (case i19 => k_is)
    (case a20 => k_is)
    (case l20 => k_is)
    (case c20 => k_is)
    (case k20 => k_is)
    (case i20 => k_is)
    (case a21 => k_is)
    (case l21 => k_is)
    (case c21 => k_is)
    (case k21 => k_is)
    (case i21 => k_is)
    (case a22 => k_is)
    (case l22 => k_is)
    (case c22 => k_is)
    (case k22 => k_is)
    (case i22 => k_is)
    (case a23 => k_is)
    (case l23 => k_is)
    (case c23 => k_is)
    (case k23 => k_is)
    (case a24 => k_is)
    (case l24 => k_is)
    (case c24 => k_is)
    (case k24 => k_is)
    (case a25 => k_is)
    (case l25 => k_is)
    (case c25 => k_is)
    (case k25 => k_is)
    (case a26 => k_is)
    (case l26 => k_is)
    (case c26 => k_is)
    (case k26 => k_is)
    (case a27 => k_is)
    (case l27 => k_is)
    (case c27 => k_is)
    (case k27 => k_is)
    (case a28 => k_is)
    (case l28 => k_is)
    (case c28 => k_is)
    (case k28 => k_is)
    (case a29 => k_is)
    (case l29 => k_is)
    (case c29 => k_is)
    (case k29 => k_is)
    (case a30 => k_is)
    (case l30 => k_is)
    (case c30 => k_is)
    (case k30 => k_is)
    (case a31 => k_is)
    (case l31 => k_is)
    (case c31 => k_is)
    (case k31 => k_is)
    (case a32 => k_is)
    (case l32 => k_is)
    (case c32 => k_is)
    (case k32 => k_is)
    (case a33 => k_is)
    (case l33 => k_is)
    (case c33 => k_is)
    (case k33 => k_is)
    (case a34 => k_is)
    (case l34 => k_is)
    (case c34 => k_is)
    (case k34 => k_is)
    (case a35 => k_is)
    (case l35 => k_is)
    (case c35 => k_is)
    (case k35 => k_is)
    (case a36 => k_is)
    (case l36 => k_is)
    (case c36 => k_is)
    (case k36 => k_is)
    (case a37 => k_is)
    (case l37 => k_is)
    (case c37 => k_is)
    (case k37 => k_is)
    (case a38 => k_is)
    (case l38 => k_is)
    (case c38 => k_is)
    (case k38 => k_is)
    (case a39 => k_is)
    (case l39 => k_is)
    (case c39 => k_is)
    (case k39 => k_is)
    (case a40 => k_is)
    (case l40 => k_is)
    (case c40 => k_is)
    (case k40 => k_is)
    (case q40 => k_is)
    (case p40 => first | rfl | (with_unfolding_all rfl))
    (case n40 => first | rfl | (with_unfolding_all rfl))
    (case a41 => k_is)
    (case l41 => k_is)
    (case c41 => k_is)
    (case k41 => k_is)
    (case a42 => k_is)
    (case l42 => k_is)
    (case c42 => k_is)
    (case k42 => k_is)
    (case a43 => k_is)
    (case l43 => k_is)
    (case c43 => k_is)
    (case k43 => k_is)
    (case a44 => k_is)
    (case l44 => k_is)
    (case c44 => k_is)
    (case k44 => k_is)
    (case q44 => k_is)
    (case p44 => first | rfl | (with_unfolding_all rfl))
    (case n44 => first | rfl | (with_unfolding_all rfl))
    (case a45 => k_is)
    (case l45 => k_is)
    (case c45 => k_is)
    (case k45 => k_is)
    (case q45 => k_is)
    (case p45 => first | rfl | (with_unfolding_all rfl))
    (case n45 => first | rfl | (with_unfolding_all rfl))
    (case a46 => k_is)
    (case l46 => k_is)
    (case c46 => k_is)
    (case k46 => k_is)
    (case a47 => k_is)
    (case l47 => k_is)
    (case c47 => k_is)
    (case k47 => k_is)
    (case a48 => k_is)
    (case l48 => k_is)
    (case c48 => k_is)
    (case k48 => k_is)
    (case a49 => k_is)
    (case l49 => k_is)
    (case c49 => k_is)
    (case k49 => k_is)
    (case a50 => k_is)
    (case l50 => k_is)
    (case c50 => k_is)
    (case k50 => k_is)
    (case a51 => k_is)
    (case l51 => k_is)
    (case c51 => k_is)
    (case k51 => k_is)
    (case a52 => k_is)
    (case l52 => k_is)
    (case c52 => k_is)
    (case k52 => k_is)
    (case a53 => k_is)
    (case l53 => k_is)
    (case c53 => k_is)
    (case k53 => k_is)
    (case a54 => k_is)
    (case l54 => k_is)
    (case c54 => k_is)
    (case k54 => k_is)
    (case a55 => k_is)
    (case l55 => k_is)
    (case c55 => k_is)
    (case k55 => k_is)
    (case a56 => k_is)
    (case l56 => k_is)
    (case c56 => k_is)
    (case k56 => k_is)
    (case a57 => k_is)
    (case l57 => k_is)
    (case c57 => k_is)
    (case k57 => k_is)
    (case a58 => k_is)
    (case l58 => k_is)
    (case c58 => k_is)
    (case k58 => k_is)
    (case a59 => k_is)
    (case l59 => k_is)
    (case c59 => k_is)
    (case k59 => k_is)
    (case a60 => k_is)
    (case l60 => k_is)
    (case c60 => k_is)
    (case k60 => k_is)
    (case a61 => k_is)
    (case l61 => k_is)
    (case c61 => k_is)
    (case k61 => k_is)
    (case a62 => k_is)
    (case l62 => k_is)
    (case c62 => k_is)
    (case k62 => k_is)
    (case a63 => k_is)
    (case l63 => k_is)
    (case c63 => k_is)
    (case k63 => k_is)
    (case a64 => k_is)
    (case l64 => k_is)
    (case c64 => k_is)
    (case k64 => k_is)
    (case a65 => k_is)
    (case l65 => k_is)
    (case c65 => k_is)
    (case k65 => k_is)
    (case a66 => k_is)
    (case l66 => k_is)
    (case c66 => k_is)
    (case k66 => k_is)
    (case a67 => k_is)
    (case l67 => k_is)
    (case c67 => k_is)
    (case k67 => k_is)
    (case a68 => k_is)
    (case l68 => k_is)
    (case c68 => k_is)
    (case k68 => k_is)
    (case a69 => k_is)
    (case l69 => k_is)
    (case c69 => k_is)
    (case k69 => k_is)
    (case a70 => k_is)
    (case l70 => k_is)
    (case c70 => k_is)
    (case k70 => k_is)
    (case a71 => k_is)
    (case l71 => k_is)
    (case c71 => k_is)
    (case k71 => k_is)
    (case a72 => k_is)
    (case l72 => k_is)
    (case c72 => k_is)
    (case k72 => k_is)
    (case a73 => k_is)
    (case l73 => k_is)
    (case c73 => k_is)
    (case k73 => k_is)
    (case a74 => k_is)
    (case l74 => k_is)
    (case c74 => k_is)
    (case k74 => k_is)
    (case a75 => k_is)
    (case l75 => k_is)
    (case c75 => k_is)
    (case k75 => k_is)
    (case a76 => k_is)
    (case l76 => k_is)
    (case c76 => k_is)
    (case k76 => k_is)
    (case a77 => k_is)
    (case l77 => k_is)
    (case c77 => k_is)
    (case k77 => k_is)
    (case a78 => k_is)
    (case l78 => k_is)
    (case c78 => k_is)
    (case k78 => k_is)
    (case a79 => k_is)
    (case l79 => k_is)
    (case c79 => k_is)
    (case k79 => k_is)
    (case a80 => k_is)
    (case l80 => k_is)
    (case c80 => k_is)
    (case k80 => k_is)
    (case a81 => k_is)
    (case l81 => k_is)
    (case c81 => k_is)
    (case k81 => k_is)
    (case a82 => k_is)
    (case l82 => k_is)
    (case c82 => k_is)
    (case k82 => k_is)
    (case a83 => k_is)
    (case l83 => k_is)
    (case c83 => k_is)
    (case k83 => k_is)
    (case a84 => k_is)
    (case l84 => k_is)
    (case c84 => k_is)
    (case k84 => k_is)
    (case a85 => k_is)
    (case l85 => k_is)
    (case c85 => k_is)
    (case k85 => k_is)
    (case a86 => k_is)
    (case l86 => k_is)
    (case c86 => k_is)
    (case k86 => k_is)
    (case a87 => k_is)
    (case l87 => k_is)
    (case c87 => k_is)
    (case k87 => k_is)
    (case z_ValueError => k_is)
    (case z_abs => k_is)
    (case z_all => k_is)
    (case z_bool => k_is)
    (case z_dict => k_is)
    (case z_divmod => k_is)
    (case z_int => k_is)
    (case z_isinstance => k_is)
    (case z_len => k_is)
    (case z_list => k_is)
    (case z_max => k_is)
    (case z_min => k_is)
    (case z_range => k_is)
    (case z_set => k_is)
    (case z_str => k_is)
    (case z_tuple => k_is)
    (case z_zip => k_is)
    (case z_gcd => k_is)
    (case z_MOST_LETTERS => k_is)
    (case z_MOST_KETTLES => k_is)
    (case z_MOST_MOULDS => k_is)
    (case z_MOST_ROOM => k_is)
    (case z_MOST_FIRE => k_is)
    (case z_MOST_MARK_BOTTOM => k_is)
    (case z_MOST_DRIP_BOTTOM => k_is)
    (case z_MOST_BOTTOM => k_is)
    (case y_BoilError => k_is)
    (case y_NoKettle => k_is)
    (case y_NoRoom => k_is)
    (case y_NoShare => k_is)
    (case y_Empty => k_is)
    (case y_Same => k_is)
    (case y_Stopped => k_is)
    (case y_InWork => k_is)
    (case y_BadDeed => k_is)
    (case y_BadFrac => k_is)
    (case y_BadKettles => k_is)
    (case y_BadMoulds => k_is)
    (case y_BadRow => k_is)
    (case y_Cured => k_is)
    (case y_NoHour => k_is)
    (case y_NoMould => k_is)
    (case y_NoSteady => k_is)
    (case y_NoTelling => k_is)
    (case y_NotCured => k_is)
    (case y_NotReady => k_is)
    (case y_TooStrong => k_is)
    (case xL_NoKettle => k_is)
    (case xsa_NoKettle => k_is)
    (case xex_NoKettle => k_is)
    (case xty_NoKettle => k_is)
    (case xk_NoKettle => k_is)
    (case xi_NoKettle => k_is)
    (case xti_NoKettle => k_is)
    (case xl_NoKettle => k_is)
    (case xc_NoKettle => k_is)
    (case xki_NoKettle => k_is)
    (case ecl_NoKettle => k_is)
    (case ega_NoKettle => k_is)
    (case egg_NoKettle => k_is)
    (case ecs_NoKettle => k_is)
    (case ege_NoKettle => k_is)
    (case etk_NoKettle => k_is)
    (case eob_NoKettle => k_is)
    (case edi_NoKettle => k_is)
    (case efw_NoKettle => k_is)
    (case ern_NoKettle => k_is)
    (case efc_NoKettle => k_is)
    (case efl_NoKettle => k_is)
    (case xL_NoRoom => k_is)
    (case xsa_NoRoom => k_is)
    (case xex_NoRoom => k_is)
    (case xty_NoRoom => k_is)
    (case xk_NoRoom => k_is)
    (case xi_NoRoom => k_is)
    (case xti_NoRoom => k_is)
    (case xl_NoRoom => k_is)
    (case xc_NoRoom => k_is)
    (case xki_NoRoom => k_is)
    (case ecl_NoRoom => k_is)
    (case ega_NoRoom => k_is)
    (case egg_NoRoom => k_is)
    (case ecs_NoRoom => k_is)
    (case ege_NoRoom => k_is)
    (case etk_NoRoom => k_is)
    (case eob_NoRoom => k_is)
    (case edi_NoRoom => k_is)
    (case efw_NoRoom => k_is)
    (case ern_NoRoom => k_is)
    (case efc_NoRoom => k_is)
    (case efl_NoRoom => k_is)
    (case xL_NoShare => k_is)
    (case xsa_NoShare => k_is)
    (case xex_NoShare => k_is)
    (case xty_NoShare => k_is)
    (case xk_NoShare => k_is)
    (case xi_NoShare => k_is)
    (case xti_NoShare => k_is)
    (case xl_NoShare => k_is)
    (case xc_NoShare => k_is)
    (case xki_NoShare => k_is)
    (case ecl_NoShare => k_is)
    (case ega_NoShare => k_is)
    (case egg_NoShare => k_is)
    (case ecs_NoShare => k_is)
    (case ege_NoShare => k_is)
    (case etk_NoShare => k_is)
    (case eob_NoShare => k_is)
    (case edi_NoShare => k_is)
    (case efw_NoShare => k_is)
    (case ern_NoShare => k_is)
    (case efc_NoShare => k_is)
    (case efl_NoShare => k_is)
    (case xL_Empty => k_is)
    (case xsa_Empty => k_is)
    (case xex_Empty => k_is)
    (case xty_Empty => k_is)
    (case xk_Empty => k_is)
    (case xi_Empty => k_is)
    (case xti_Empty => k_is)
    (case xl_Empty => k_is)
    (case xc_Empty => k_is)
    (case xki_Empty => k_is)
    (case ecl_Empty => k_is)
    (case ega_Empty => k_is)
    (case egg_Empty => k_is)
    (case ecs_Empty => k_is)
    (case ege_Empty => k_is)
    (case etk_Empty => k_is)
    (case eob_Empty => k_is)
    (case edi_Empty => k_is)
    (case efw_Empty => k_is)
    (case ern_Empty => k_is)
    (case efc_Empty => k_is)
    (case efl_Empty => k_is)
    (case xL_Same => k_is)
    (case xsa_Same => k_is)
    (case xex_Same => k_is)
    (case xty_Same => k_is)
    (case xk_Same => k_is)
    (case xi_Same => k_is)
    (case xti_Same => k_is)
    (case xl_Same => k_is)
    (case xc_Same => k_is)
    (case xki_Same => k_is)
    (case ecl_Same => k_is)
    (case ega_Same => k_is)
    (case egg_Same => k_is)
    (case ecs_Same => k_is)
    (case ege_Same => k_is)
    (case etk_Same => k_is)
    (case eob_Same => k_is)
    (case edi_Same => k_is)
    (case efw_Same => k_is)
    (case ern_Same => k_is)
    (case efc_Same => k_is)
    (case efl_Same => k_is)
    (case xL_Stopped => k_is)
    (case xsa_Stopped => k_is)
    (case xex_Stopped => k_is)
    (case xty_Stopped => k_is)
    (case xk_Stopped => k_is)
    (case xi_Stopped => k_is)
    (case xti_Stopped => k_is)
    (case xl_Stopped => k_is)
    (case xc_Stopped => k_is)
    (case xki_Stopped => k_is)
    (case ecl_Stopped => k_is)
    (case ega_Stopped => k_is)
    (case egg_Stopped => k_is)
    (case ecs_Stopped => k_is)
    (case ege_Stopped => k_is)
    (case etk_Stopped => k_is)
    (case eob_Stopped => k_is)
    (case edi_Stopped => k_is)
    (case efw_Stopped => k_is)
    (case ern_Stopped => k_is)
    (case efc_Stopped => k_is)
    (case efl_Stopped => k_is)
    (case xL_InWork => k_is)
    (case xsa_InWork => k_is)
    (case xex_InWork => k_is)
    (case xty_InWork => k_is)
    (case xk_InWork => k_is)
    (case xi_InWork => k_is)
    (case xti_InWork => k_is)
    (case xl_InWork => k_is)
    (case xc_InWork => k_is)
    (case xki_InWork => k_is)
    (case ecl_InWork => k_is)
    (case ega_InWork => k_is)
    (case egg_InWork => k_is)
    (case ecs_InWork => k_is)
    (case ege_InWork => k_is)
    (case etk_InWork => k_is)
    (case eob_InWork => k_is)
    (case edi_InWork => k_is)
    (case efw_InWork => k_is)
    (case ern_InWork => k_is)
    (case efc_InWork => k_is)
    (case efl_InWork => k_is)
    (case ic_BoilError => k_is)
    (case it_BoilError => k_is)
    (case ic_BadDeed => k_is)
    (case it_BadDeed => k_is)
    (case ic_BadFrac => k_is)
    (case it_BadFrac => k_is)
    (case ic_BadKettles => k_is)
    (case it_BadKettles => k_is)
    (case ic_BadMoulds => k_is)
    (case it_BadMoulds => k_is)
    (case ic_BadRow => k_is)
    (case it_BadRow => k_is)
    (case ic_Cured => k_is)
    (case it_Cured => k_is)
    (case ic_NoHour => k_is)
    (case it_NoHour => k_is)
    (case ic_NoMould => k_is)
    (case it_NoMould => k_is)
    (case ic_NoSteady => k_is)
    (case it_NoSteady => k_is)
    (case ic_NoTelling => k_is)
    (case it_NoTelling => k_is)
    (case ic_NotCured => k_is)
    (case it_NotCured => k_is)
    (case ic_NotReady => k_is)
    (case it_NotReady => k_is)
    (case ic_TooStrong => k_is)
    (case it_TooStrong => k_is)
    (case ibx => k_is)
    (case su_NoKettle_BoilError => k_is)
    (case su_NoRoom_BoilError => k_is)
    (case su_NoShare_BoilError => k_is)
    (case su_Empty_BoilError => k_is)
    (case su_Same_BoilError => k_is)
    (case su_Stopped_BoilError => k_is)
    (case su_InWork_BoilError => k_is)
    (case su_NoKettle_NoKettle => k_is)
    (case su_NoKettle_NoRoom => k_is)
    (case su_NoKettle_NoShare => k_is)
    (case su_NoKettle_Empty => k_is)
    (case su_NoKettle_Same => k_is)
    (case su_NoKettle_Stopped => k_is)
    (case su_NoKettle_InWork => k_is)
    (case su_NoKettle_BadDeed => k_is)
    (case su_NoKettle_BadFrac => k_is)
    (case su_NoKettle_BadKettles => k_is)
    (case su_NoKettle_BadMoulds => k_is)
    (case su_NoKettle_BadRow => k_is)
    (case su_NoKettle_Cured => k_is)
    (case su_NoKettle_NoHour => k_is)
    (case su_NoKettle_NoMould => k_is)
    (case su_NoKettle_NoSteady => k_is)
    (case su_NoKettle_NoTelling => k_is)
    (case su_NoKettle_NotCured => k_is)
    (case su_NoKettle_NotReady => k_is)
    (case su_NoKettle_TooStrong => k_is)
    (case su_NoRoom_NoKettle => k_is)
    (case su_NoRoom_NoRoom => k_is)
    (case su_NoRoom_NoShare => k_is)
    (case su_NoRoom_Empty => k_is)
    (case su_NoRoom_Same => k_is)
    (case su_NoRoom_Stopped => k_is)
    (case su_NoRoom_InWork => k_is)
    (case su_NoRoom_BadDeed => k_is)
    (case su_NoRoom_BadFrac => k_is)
    (case su_NoRoom_BadKettles => k_is)
    (case su_NoRoom_BadMoulds => k_is)
    (case su_NoRoom_BadRow => k_is)
    (case su_NoRoom_Cured => k_is)
    (case su_NoRoom_NoHour => k_is)
    (case su_NoRoom_NoMould => k_is)
    (case su_NoRoom_NoSteady => k_is)
    (case su_NoRoom_NoTelling => k_is)
    (case su_NoRoom_NotCured => k_is)
    (case su_NoRoom_NotReady => k_is)
    (case su_NoRoom_TooStrong => k_is)
    (case su_NoShare_NoKettle => k_is)
    (case su_NoShare_NoRoom => k_is)
    (case su_NoShare_NoShare => k_is)
    (case su_NoShare_Empty => k_is)
    (case su_NoShare_Same => k_is)
    (case su_NoShare_Stopped => k_is)
    (case su_NoShare_InWork => k_is)
    (case su_NoShare_BadDeed => k_is)
    (case su_NoShare_BadFrac => k_is)
    (case su_NoShare_BadKettles => k_is)
    (case su_NoShare_BadMoulds => k_is)
    (case su_NoShare_BadRow => k_is)
    (case su_NoShare_Cured => k_is)
    (case su_NoShare_NoHour => k_is)
    (case su_NoShare_NoMould => k_is)
    (case su_NoShare_NoSteady => k_is)
    (case su_NoShare_NoTelling => k_is)
    (case su_NoShare_NotCured => k_is)
    (case su_NoShare_NotReady => k_is)
    (case su_NoShare_TooStrong => k_is)
    (case su_Empty_NoKettle => k_is)
    (case su_Empty_NoRoom => k_is)
    (case su_Empty_NoShare => k_is)
    (case su_Empty_Empty => k_is)
    (case su_Empty_Same => k_is)
    (case su_Empty_Stopped => k_is)
    (case su_Empty_InWork => k_is)
    (case su_Empty_BadDeed => k_is)
    (case su_Empty_BadFrac => k_is)
    (case su_Empty_BadKettles => k_is)
    (case su_Empty_BadMoulds => k_is)
    (case su_Empty_BadRow => k_is)
    (case su_Empty_Cured => k_is)
    (case su_Empty_NoHour => k_is)
    (case su_Empty_NoMould => k_is)
    (case su_Empty_NoSteady => k_is)
    (case su_Empty_NoTelling => k_is)
    (case su_Empty_NotCured => k_is)
    (case su_Empty_NotReady => k_is)
    (case su_Empty_TooStrong => k_is)
    (case su_Same_NoKettle => k_is)
    (case su_Same_NoRoom => k_is)
    (case su_Same_NoShare => k_is)
    (case su_Same_Empty => k_is)
    (case su_Same_Same => k_is)
    (case su_Same_Stopped => k_is)
    (case su_Same_InWork => k_is)
    (case su_Same_BadDeed => k_is)
    (case su_Same_BadFrac => k_is)
    (case su_Same_BadKettles => k_is)
    (case su_Same_BadMoulds => k_is)
    (case su_Same_BadRow => k_is)
    (case su_Same_Cured => k_is)
    (case su_Same_NoHour => k_is)
    (case su_Same_NoMould => k_is)
    (case su_Same_NoSteady => k_is)
    (case su_Same_NoTelling => k_is)
    (case su_Same_NotCured => k_is)
    (case su_Same_NotReady => k_is)
    (case su_Same_TooStrong => k_is)
    (case su_Stopped_NoKettle => k_is)
    (case su_Stopped_NoRoom => k_is)
    (case su_Stopped_NoShare => k_is)
    (case su_Stopped_Empty => k_is)
    (case su_Stopped_Same => k_is)
    (case su_Stopped_Stopped => k_is)
    (case su_Stopped_InWork => k_is)
    (case su_Stopped_BadDeed => k_is)
    (case su_Stopped_BadFrac => k_is)
    (case su_Stopped_BadKettles => k_is)
    (case su_Stopped_BadMoulds => k_is)
    (case su_Stopped_BadRow => k_is)
    (case su_Stopped_Cured => k_is)
    (case su_Stopped_NoHour => k_is)
    (case su_Stopped_NoMould => k_is)
    (case su_Stopped_NoSteady => k_is)
    (case su_Stopped_NoTelling => k_is)
    (case su_Stopped_NotCured => k_is)
    (case su_Stopped_NotReady => k_is)
    (case su_Stopped_TooStrong => k_is)
    (case su_InWork_NoKettle => k_is)
    (case su_InWork_NoRoom => k_is)
    (case su_InWork_NoShare => k_is)
    (case su_InWork_Empty => k_is)
    (case su_InWork_Same => k_is)
    (case su_InWork_Stopped => k_is)
    (case su_InWork_InWork => k_is)
    (case su_InWork_BadDeed => k_is)
    (case su_InWork_BadFrac => k_is)
    (case su_InWork_BadKettles => k_is)
    (case su_InWork_BadMoulds => k_is)
    (case su_InWork_BadRow => k_is)
    (case su_InWork_Cured => k_is)
    (case su_InWork_NoHour => k_is)
    (case su_InWork_NoMould => k_is)
    (case su_InWork_NoSteady => k_is)
    (case su_InWork_NoTelling => k_is)
    (case su_InWork_NotCured => k_is)
    (case su_InWork_NotReady => k_is)
    (case su_InWork_TooStrong => k_is)
    (case ive_NoKettle => k_is)
    (case ive_NoRoom => k_is)
    (case ive_NoShare => k_is)
    (case ive_Empty => k_is)
    (case ive_Same => k_is)
    (case ive_Stopped => k_is)
    (case ive_InWork => k_is)
    (case z_NOUGHT => k_is)
    (case l_NOUGHT => k_is)
    (case z_ONE => k_is)
    (case l_ONE => k_is)
    (case z_NOTHING => k_is)
    (case l_NOTHING => k_is)
    (case lx_NOTHING => k_is)
    (case ly_NOTHING => k_is)
#print axioms PySem.Challenge.cw_kettlerow_k21_skimmed_holds
