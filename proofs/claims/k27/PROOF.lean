import PyProof.Rows.All
import Wide.All
import OpenK.AllK
import Wide.FinOn
import HandS.ForMost
import HandS.Gcd
import HandS.Wide
import HandS.IsInst
import HandS.Zip
import HandS.More
import HandS.Style
import HandS.Rev
import HandS.MapJoin
import HandS.StrMore
import HandS.WideBits
import HandS.TupMul
import HandS.Small
import PyProof.Rows.RegFStrParts
import HandS.Dict
import HandS.DictComp
import KE.KNest
import HandS.AnyAll
import HandS.EndTab
import HandS.GenOver
import HandS.Strs
import HandS.Flow
import HandS.TryOnly
import KE.KExcIs
import HandS.ExcInit
import HandS.ExcField
import HandS.ExcIs
import HandS.WordsExc
import HandS.ExcOwn
import KE.KTypeName
import OpenK.KCls
import PyProof.Rows.CountFlat
import HandS.Iter
import KE.KEqDict
import KE.KRevSl
import PySem.Challenge.RW_kettlerow_k27_nothing_is_lost_but_told
set_option Elab.async false
set_option linter.all false
set_option maxRecDepth 100000
set_option maxHeartbeats 4000000
/-! ### own rules and words, of no law -/
namespace KR
open PySem PySem.Spec PyProof.Rows L2

set_option Elab.async true in
/-- * of any two ints whose product is told to fit -/
theorem op_mulX {X : Cx} : OpR X (binaryOp .Mult) (rI IntMulOk fun i j => .int (i * j)) := opI fun _ _ _ _ _ _ _ hc q => mul_int q hc
  in #guard_msgs (pass all) in example : True := trivial
/-- // by any divisor but 0, to some three thousand figures -/
def DivOk (_ j : Int) : Prop := j ≠ 0 ∧ j.natAbs.log2 < 9000
set_option Elab.async true in
theorem op_fdivX {X : Cx} : OpR X (binaryOp .FloorDiv) (rI DivOk fun i j => .int (i.fdiv j)) := opI fun _ _ _ _ _ _ _ hc q => floordiv_int hc.1 q (.inl (PyProof.noPylong_of_log2 hc.2))
  in #guard_msgs (pass all) in example : True := trivial
theorem mulL {i j : Int} (h : i.natAbs < 2 ^ 64) : IntMulOk i j := CMul.ok (.inl ⟨by omega, by omega⟩)
theorem mulR {i j : Int} (h : j.natAbs < 2 ^ 64) : IntMulOk i j := CMul.ok (.inr ⟨by omega, by omega⟩)
set_option Elab.async true in
theorem mulW {i j : Int} {a b : Nat} (ha : i.natAbs < 2 ^ a) (hb : j.natAbs < 2 ^ b) (h0 : 0 < a) (h1 : 0 < b) (h : a + b ≤ 1000000) : IntMulOk i j := (wide_mul ha hb h0 h1 h).ok
  in #guard_msgs (pass all) in example : True := trivial
set_option Elab.async true in
theorem divOk {i j : Int} {b : Nat} (h : j ≠ 0) (hb : j.natAbs < 2 ^ b) (h0 : 0 < b) (h9 : b ≤ 9000) : DivOk i j := ⟨h, Nat.lt_of_lt_of_le (PySem.Flt.log2_lt_of h0 hb) h9⟩
  in #guard_msgs (pass all) in example : True := trivial
set_option Elab.async true in
theorem add_lt {i j : Int} {a : Nat} (ha : i.natAbs < 2 ^ a) (hb : j.natAbs < 2 ^ a) : (i + j).natAbs < 2 ^ (a + 1) := by
  rw [Nat.pow_succ]
  omega
  in #guard_msgs (pass all) in example : True := trivial
set_option Elab.async true in
theorem sub_lt {i j : Int} {a : Nat} (ha : i.natAbs < 2 ^ a) (hb : j.natAbs < 2 ^ a) : (i - j).natAbs < 2 ^ (a + 1) := by
  rw [Nat.pow_succ]
  omega
  in #guard_msgs (pass all) in example : True := trivial
set_option Elab.async true in
theorem lt_up {i : Int} {a b : Nat} (ha : i.natAbs < 2 ^ a) (h : a ≤ b) : i.natAbs < 2 ^ b := Nat.lt_of_lt_of_le ha (Nat.pow_le_pow_right (by decide) h)
  in #guard_msgs (pass all) in example : True := trivial
theorem bit_lt {c : Prop} [Decidable c] : (if c then (1 : Int) else 0).natAbs < 2 ^ 64 := by split <;> decide
theorem bit_nn {c : Prop} [Decidable c] : (0 : Int) ≤ (if c then (1 : Int) else 0) := by split <;> decide
set_option Elab.async true in
theorem bit_or {c : Prop} [Decidable c] : (if c then (1 : Int) else 0) = 0 ∨ (if c then (1 : Int) else 0) = 1 := by split <;> simp
  in #guard_msgs (pass all) in example : True := trivial
theorem small {n : Nat} (h : n ≤ 100000) : n ≤ sizeLine := Nat.le_trans h (by decide)
theorem small' {n : Nat} (h : n < 100000) : n < sizeLine := Nat.lt_of_lt_of_le h (by decide)

/-! the heap but for one object that is written -/
/-- all that was tracked but p is as it was -/
def Fr (p : Addr) (H H' : Hp) : Prop := ∀ b o, b ≠ p → H b = some o → H' b = some o
theorem Fr.refl {p : Addr} {H : Hp} : Fr p H H := fun _ _ _ h => h
set_option Elab.async true in
theorem Fr.trans {p : Addr} {H H1 H2 : Hp} (a : Fr p H H1) (b : Fr p H1 H2) : Fr p H H2 := fun c o n h => b c o n (a c o n h)
  in #guard_msgs (pass all) in example : True := trivial
theorem Fr.of {p : Addr} {H H1 : Hp} (a : Same H H1) : Fr p H H1 := fun c o _ h => a c o h
set_option Elab.async true in
theorem same_new {H : Hp} {p : Addr} {o : HO} (h : H p = none) : Same H (upd H p o) := fun b x e => by
  rw [upd_ne (ne_of_none e h)]
  exact e
  in #guard_msgs (pass all) in example : True := trivial
set_option Elab.async true in
theorem Fr.put {p : Addr} {H H1 : Hp} {o : HO} (a : Fr p H H1) : Fr p H (upd H1 p o) := fun c x n h => by
  rw [upd_ne n]
  exact a c x n h
  in #guard_msgs (pass all) in example : True := trivial
set_option Elab.async true in
theorem Fr.put' {p q : Addr} {H H1 : Hp} {o : HO} (a : Fr p H H1) (h : H q = none) : Fr p H (upd H1 q o) := fun c x n e => by
  rw [upd_ne (ne_of_none e h)]
  exact a c x n e
  in #guard_msgs (pass all) in example : True := trivial
set_option Elab.async true in
/-- what is new there was new ahead of it, if the written one stands -/
theorem Fr.free {p q : Addr} {H H1 : Hp} {o : HO} (a : Fr p H H1) (hp : H1 p = some o) (h : H1 q = none) : H q = none := by
  cases e : H q with
  | none => rfl
  | some u =>
    have n : q ≠ p := fun z => by
      rw [z, hp] at h
      cases h
    rw [a q u n e] at h
    cases h
  in #guard_msgs (pass all) in example : True := trivial

/-! a reading may be asked for more than is wanted; displays whose new heap is a letter -/
def clA (t : TA) : TA := fun σ H Q => ∃ Q0 : List V → Hp → Prop, (∀ xs H1, Q0 xs H1 → Q xs H1) ∧ t σ H Q0
set_option Elab.async true in
theorem pa_cl {X : Cx} {es : List Expr} {t : TA} (h : PA X es t) : PA X es (clA t) := ⟨fun pos pins s σ H Q I ⟨Q0, m, q⟩ =>
  thn (h.run pos pins s σ H Q0 I q) fun us s1 ⟨xs, H1, I1, r, z⟩ => ⟨xs, H1, I1, r, m _ _ z⟩⟩
  in #guard_msgs (pass all) in example : True := trivial
def tTupI (t : TA) : TE := fun σ H Q => t σ H fun xs H1 => Nat.ble xs.length 100000 = true ∧ ∀ p H', Same H1 H' → H1 p = none → H' p = some (.tup xs) → Q (.ref p) H'
def tLstI (t : TA) : TE := fun σ H Q => t σ H fun xs H1 => Nat.ble xs.length 100000 = true ∧ ∀ p H', Same H1 H' → H1 p = none → H' p = some (.lst xs) → Q (.ref p) H'
set_option Elab.async true in
theorem pe_tupI {X : Cx} {es : List Expr} {k : Nat} {pos : Pos} {t : TA} (h : PA X es t) : PE X (.Tuple es k pos) (tTupI t) := ⟨fun pins s σ H Q I q =>
  (pe_tup (pa_cl h)).run pins s σ H Q I ⟨_, fun _ _ ⟨z, w⟩ => ⟨small (Nat.le_of_ble_eq_true z), fun p hp => w p _ (same_new hp) hp upd_same⟩, q⟩⟩
  in #guard_msgs (pass all) in example : True := trivial
set_option Elab.async true in
theorem pe_lstI {X : Cx} {es : List Expr} {pos : Pos} {t : TA} (h : PA X es t) : PE X (.List es pos) (tLstI t) := ⟨fun pins s σ H Q I q =>
  (pe_lst (pa_cl h)).run pins s σ H Q I ⟨_, fun _ _ ⟨z, w⟩ => ⟨small (Nat.le_of_ble_eq_true z), fun p hp => w p _ (same_new hp) hp upd_same⟩, q⟩⟩
  in #guard_msgs (pass all) in example : True := trivial
/-- ways that join behind a statement: R is what they come to -/
def tJ (t : TS) : TS := fun D σ H => ∃ R : L2.St → Hp → Prop, (∀ σ' H', R σ' H' → D.nx σ' H') ∧ t { D with nx := R } σ H
set_option Elab.async true in
theorem ps_J {X : Cx} {st : Stmt} {t : TS} (h : PS X st t) : PS X st (tJ t) := ⟨fun pins s σ H D I ⟨R, m, q⟩ => thn (h.run pins s σ H { D with nx := R } I q) fun f s1 z =>
  match f, z with
  | .next, ⟨σ', H', J, r⟩ => ⟨σ', H', J, m _ _ r⟩
  | .ret _, z => z
  | .brk, z => z
  | .cont, z => z⟩
  in #guard_msgs (pass all) in example : True := trivial
set_option Elab.async true in
theorem ite_bT {b : Bool} {A B : Prop} (h : b = true) (q : A) : if b = true then A else B := by
  rw [if_pos h]
  exact q
  in #guard_msgs (pass all) in example : True := trivial
set_option Elab.async true in
theorem ite_bF {b : Bool} {A B : Prop} (h : b = false) (q : B) : if b = true then A else B := by
  rw [if_neg (by rw [h]; exact Bool.false_ne_true)]
  exact q
  in #guard_msgs (pass all) in example : True := trivial
set_option Elab.async true in
theorem ite_iT {i j : Int} {A B : Prop} (h : i = j) (q : A) : if decide (V.int i = V.int j) = true then A else B := by
  rw [if_pos (decide_eq_true (congrArg V.int h))]
  exact q
  in #guard_msgs (pass all) in example : True := trivial
set_option Elab.async true in
theorem ite_iF {i j : Int} {A B : Prop} (h : i ≠ j) (q : B) : if decide (V.int i = V.int j) = true then A else B := by
  rw [if_neg (by rw [decide_eq_false fun z => h (V.int.inj z)]; exact Bool.false_ne_true)]
  exact q
  in #guard_msgs (pass all) in example : True := trivial
set_option Elab.async true in
theorem ite_nT {i j : Int} {A B : Prop} (h : i ≠ j) (q : A) : if (!decide (V.int i = V.int j)) = true then A else B := by
  rw [if_pos (by rw [decide_eq_false fun z => h (V.int.inj z)] <;> rfl)]
  exact q
  in #guard_msgs (pass all) in example : True := trivial
set_option Elab.async true in
theorem ite_nF {i j : Int} {A B : Prop} (h : i = j) (q : B) : if (!decide (V.int i = V.int j)) = true then A else B := by
  rw [if_neg (by rw [decide_eq_true (congrArg V.int h)]; exact Bool.false_ne_true)]
  exact q
  in #guard_msgs (pass all) in example : True := trivial
/-- the law's box of draws: n is more than have been mixed -/
def BoxAt (H : Hp) (p : Addr) (n : Nat) : Prop := ∃ a b c : Int, H p = some (.lst [.int a, .int b, .int c]) ∧ 0 ≤ a ∧ 0 ≤ b ∧ b < 2 ^ 62 ∧ 0 ≤ c ∧ c ≤ (n : Int)
set_option Elab.async true in
theorem BoxAt.mono {H : Hp} {p : Addr} {n m : Nat} (h : BoxAt H p n) (le : n ≤ m) : BoxAt H p m := by
  obtain ⟨a, b, c, h1, h2, h3, h4, h5, h6⟩ := h
  exact ⟨a, b, c, h1, h2, h3, h4, h5, by omega⟩
  in #guard_msgs (pass all) in example : True := trivial
set_option Elab.async true in
theorem BoxAt.same {H H' : Hp} {p : Addr} {n : Nat} (h : BoxAt H p n) (s : Same H H') : BoxAt H' p n := by
  obtain ⟨a, b, c, h1, h2⟩ := h
  exact ⟨a, b, c, s _ _ h1, h2⟩
  in #guard_msgs (pass all) in example : True := trivial
set_option Elab.async true in
theorem BoxAt.some {H : Hp} {p : Addr} {n : Nat} (h : BoxAt H p n) : ∃ o, H p = some o := by
  obtain ⟨a, b, c, h1, _⟩ := h
  exact ⟨_, h1⟩
  in #guard_msgs (pass all) in example : True := trivial
/-- a pair of ints -/
def PrAt (H : Hp) (q : Addr) (t b : Int) : Prop := H q = some (.tup [.int t, .int b])
theorem at0 {x : V} {xs : List V} : atI (x :: xs) 0 = some x := atI_nat (j := 0) rfl
theorem at1 {x y : V} {xs : List V} : atI (x :: y :: xs) 1 = some y := atI_nat (j := 1) rfl
theorem at2 {x y z : V} {xs : List V} : atI (x :: y :: z :: xs) 2 = some z := atI_nat (j := 2) rfl

/-! fractions -/
/-- the law's own lowest terms -/
def low (t b : Int) : Int × Int := (t / (Nat.gcd t.natAbs b.natAbs : Nat) * (if b < 0 then -1 else 1), (b.natAbs : Int) / (Nat.gcd t.natAbs b.natAbs : Nat))
structure IsLow (t b : Int) : Prop where
  pos : 0 < b
  cop : Nat.gcd t.natAbs b.natAbs = 1
theorem dvd_mul {a b : Int} (h : a ∣ b) : a * (b / a) = b := Int.mul_ediv_cancel' h
set_option Elab.async true in
theorem low_facts (t b : Int) (hb : b ≠ 0) : IsLow (low t b).1 (low t b).2 ∧ t * (low t b).2 = (low t b).1 * b := by
  have hg : 0 < Nat.gcd t.natAbs b.natAbs := Nat.gcd_pos_of_pos_right _ (by omega)
  generalize e : Nat.gcd t.natAbs b.natAbs = g at hg
  have d1 : g ∣ t.natAbs := e ▸ Nat.gcd_dvd_left _ _
  have d2 : g ∣ b.natAbs := e ▸ Nat.gcd_dvd_right _ _
  obtain ⟨x, hx⟩ := d1
  obtain ⟨y, hy⟩ := d2
  have hc : Nat.gcd x y = 1 := by
    rw [hx, hy, Nat.gcd_mul_left] at e
    exact Nat.eq_of_mul_eq_mul_left hg (by rw [e, Nat.mul_one])
  have hy0 : 0 < y := by
    rcases Nat.eq_zero_or_pos y with z | z
    · rw [z, Nat.mul_zero] at hy
      omega
    · exact z
  have h2 : (low t b).2 = (y : Int) := by
    show (b.natAbs : Int) / (Nat.gcd t.natAbs b.natAbs : Nat) = (y : Int)
    rw [e, hy, Int.natCast_mul]
    exact Int.mul_ediv_cancel_left _ (by omega)
  have ht : t = (g : Int) * x ∨ t = -((g : Int) * x) := by
    have q : (t.natAbs : Int) = (g : Int) * x := by rw [hx, Int.natCast_mul]
    omega
  have hbb : (b.natAbs : Int) = (g : Int) * y := by rw [hy, Int.natCast_mul]
  have h1 : (low t b).1 = (t / (g : Int)) * (if b < 0 then -1 else 1) := by
    show t / (Nat.gcd t.natAbs b.natAbs : Nat) * (if b < 0 then -1 else 1) = _
    rw [e]
  have h3 : t / (g : Int) = x ∨ t / (g : Int) = -(x : Int) := by
    rcases ht with q | q
    · left
      rw [q]
      exact Int.mul_ediv_cancel_left _ (by omega)
    · right
      rw [q, ← Int.mul_neg]
      exact Int.mul_ediv_cancel_left _ (by omega)
  have h4 : (g : Int) * (t / (g : Int)) = t := dvd_mul (by
    rcases ht with q | q
    · exact ⟨x, q⟩
    · exact ⟨-x, by rw [q, Int.mul_neg]⟩)
  refine ⟨⟨by rw [h2]; omega, ?_⟩, ?_⟩
  · rw [h2, h1]
    have q : ((t / (g : Int)) * (if b < 0 then -1 else 1)).natAbs = x := by
      split <;> rcases h3 with z | z <;> rw [z] <;> omega
    rw [q]
    exact hc
  · rw [h2, h1]
    by_cases c : b < 0
    · rw [if_pos c]
      have q : b = -((g : Int) * y) := by omega
      grind
    · rw [if_neg c]
      have q : b = (g : Int) * y := by omega
      grind
  in #guard_msgs (pass all) in example : True := trivial
set_option Elab.async true in
/-- two fractions in lowest terms that are alike across are one -/
theorem isLow_uniq {x y u v : Int} (h : IsLow x y) (k : IsLow u v) (e : x * v = u * y) : x = u ∧ y = v := by
  have h1 := h.pos
  have k1 := k.pos
  have e1 : x.natAbs * v.natAbs = u.natAbs * y.natAbs := by rw [← Int.natAbs_mul, ← Int.natAbs_mul, e]
  have d1 : y.natAbs ∣ v.natAbs := (Nat.Coprime.symm h.cop).dvd_of_dvd_mul_left (by rw [e1]; exact Nat.dvd_mul_left _ _)
  have d2 : v.natAbs ∣ y.natAbs := (Nat.Coprime.symm k.cop).dvd_of_dvd_mul_left (by rw [← e1]; exact Nat.dvd_mul_left _ _)
  have e2 : y.natAbs = v.natAbs := Nat.dvd_antisymm d1 d2
  have e3 : y = v := by omega
  subst e3
  exact ⟨Int.eq_of_mul_eq_mul_right (by omega) e, rfl⟩
  in #guard_msgs (pass all) in example : True := trivial
set_option Elab.async true in
theorem low_eq {t b x y : Int} (hb : b ≠ 0) (h : IsLow x y) (e : t * y = x * b) : low t b = (x, y) := by
  obtain ⟨h1, h2⟩ := low_facts t b hb
  have q : (low t b).1 * y = x * (low t b).2 := by
    have z : b * ((low t b).1 * y) = b * (x * (low t b).2) := by grind
    exact Int.eq_of_mul_eq_mul_left hb z
  obtain ⟨a1, a2⟩ := isLow_uniq h1 h q
  exact Prod.ext a1 a2
  in #guard_msgs (pass all) in example : True := trivial
set_option Elab.async true in
theorem low_le (t b : Int) : (low t b).1.natAbs ≤ t.natAbs ∧ (low t b).2.natAbs ≤ b.natAbs := by
  generalize e : Nat.gcd t.natAbs b.natAbs = g
  have h1 : (low t b).1 = (t / (g : Int)) * (if b < 0 then -1 else 1) := by
    show t / (Nat.gcd t.natAbs b.natAbs : Nat) * (if b < 0 then -1 else 1) = _
    rw [e]
  have h2 : (low t b).2 = (b.natAbs : Int) / (g : Int) := by
    show (b.natAbs : Int) / (Nat.gcd t.natAbs b.natAbs : Nat) = _
    rw [e]
  have d1 : (g : Int) ∣ t := e ▸ Int.ofNat_dvd_left.mpr (Nat.gcd_dvd_left _ _)
  constructor
  · rw [h1]
    have q : (t / (g : Int) * (if b < 0 then -1 else 1)).natAbs = (t / (g : Int)).natAbs := by
      split <;> omega
    rw [q]
    obtain ⟨z, rfl⟩ := d1
    by_cases c : (g : Int) = 0
    · rw [c, Int.zero_mul, Int.zero_ediv]
      omega
    · rw [Int.mul_ediv_cancel_left _ c, Int.natAbs_mul]
      exact Nat.le_mul_of_pos_left _ (by omega)
  · rw [h2, ← Int.natCast_ediv, Int.natAbs_natCast]
    exact Nat.div_le_self _ _
  in #guard_msgs (pass all) in example : True := trivial
set_option Elab.async true in
theorem low_lt {t b : Int} {n : Nat} (h1 : t.natAbs < 2 ^ n) (h2 : b.natAbs < 2 ^ n) : (low t b).1.natAbs < 2 ^ n ∧ (low t b).2.natAbs < 2 ^ n :=
  ⟨Nat.lt_of_le_of_lt (low_le t b).1 h1, Nat.lt_of_le_of_lt (low_le t b).2 h2⟩
  in #guard_msgs (pass all) in example : True := trivial
/-- a fraction in lowest terms, of fewer than sixty figures -/
structure FrAt (H : Hp) (x : Addr) (a b : Int) : Prop where
  at_ : H x = some (.tup [.int a, .int b])
  low : IsLow a b
  ta : a.natAbs < 2 ^ 200
  tb : b.natAbs < 2 ^ 200
/-- a new pair of two numbers' lowest terms -/
def sp_low : Sp := fun vs H Q _ => ∃ t b : Int, vs = [.int t, .int b] ∧ b ≠ 0 ∧ t.natAbs < 2 ^ 2000 ∧ b.natAbs < 2 ^ 2000 ∧ ∀ p H', Same H H' → H p = none → H' p = some (.tup [.int (low t b).1, .int (low t b).2]) → Q (.ref p) H'
/-- two pairs in, low of what f and g say of them out -/
def sp_two (K : PySem.W.Frag) (f g : Int → Int → Int → Int → Int) : Sp := fun vs H Q _ => ∃ (x y : Addr) (a b c d : Int), vs = [.ref x, .ref y] ∧ SqT K H x [.int a, .int b] ∧ SqT K H y [.int c, .int d] ∧ g a b c d ≠ 0 ∧ a.natAbs < 2 ^ 900 ∧ b.natAbs < 2 ^ 900 ∧ c.natAbs < 2 ^ 900 ∧ d.natAbs < 2 ^ 900 ∧
  ∀ p H', Same H H' → H p = none → H' p = some (.tup [.int (low (f a b c d) (g a b c d)).1, .int (low (f a b c d) (g a b c d)).2]) → Q (.ref p) H'
set_option Elab.async true in
/-- by a divisor turned about -/
theorem fdiv_neg {t g : Int} (h : g ∣ t) : t.fdiv (-g) = t / g * -1 := by
  obtain ⟨z, rfl⟩ := h
  by_cases c : g = 0
  · subst c
    simp
  · rw [Int.mul_ediv_cancel_left _ c, show g * z = (-g) * (-z) by grind, Int.mul_fdiv_cancel_left _ (by omega)]
    omega
  in #guard_msgs (pass all) in example : True := trivial

/-! data of the law's own making, n deep -/
set_option Elab.async true in
theorem Same.put {H0 H : Hp} {D : Addr} {o : HO} (s : Same H0 H) (h : H0 D = none) : Same H0 (upd H D o) := fun b u e => by
  rw [upd_ne (ne_of_none e h)]
  exact s b u e
  in #guard_msgs (pass all) in example : True := trivial
inductive Dt (H : Hp) : Nat → V → PyData → Prop
  | non (n : Nat) : Dt H (n + 1) .non .none
  | bl (n : Nat) (b : Bool) : Dt H (n + 1) (.bl b) (.bool b)
  | int (n : Nat) (i : Int) : Dt H (n + 1) (.int i) (.int i)
  | str (n : Nat) (x : Str) (ok : PyData.canLay0 (.str x) = true) : Dt H (n + 1) (.str x) (.str x)
  | lst {n : Nat} {a : Addr} {xs : List V} {ds : List PyData} : H a = some (.lst xs) → xs.length = ds.length → xs.length ≤ 100000 → (∀ (i : Nat) (x : V) (d : PyData), xs[i]? = some x → ds[i]? = some d → Dt H n x d) → Dt H (n + 1) (.ref a) (.list ds)
  | tup {n : Nat} {a : Addr} {xs : List V} {ds : List PyData} : H a = some (.tup xs) → xs.length = ds.length → xs.length ≤ 100000 → (∀ (i : Nat) (x : V) (d : PyData), xs[i]? = some x → ds[i]? = some d → Dt H n x d) → Dt H (n + 1) (.ref a) (.tuple ds)
set_option Elab.async true in
theorem Dt.up {H : Hp} {n m : Nat} {v : V} {d : PyData} (h : Dt H n v d) : n ≤ m → Dt H m v d := by
  intro le
  induction h generalizing m with
  | non n => obtain ⟨k, rfl⟩ : ∃ k, m = k + 1 := ⟨m - 1, by omega⟩; exact .non k
  | bl n b => obtain ⟨k, rfl⟩ : ∃ k, m = k + 1 := ⟨m - 1, by omega⟩; exact .bl k b
  | int n i => obtain ⟨k, rfl⟩ : ∃ k, m = k + 1 := ⟨m - 1, by omega⟩; exact .int k i
  | str n x ok => obtain ⟨k, rfl⟩ : ∃ k, m = k + 1 := ⟨m - 1, by omega⟩; exact .str k x ok
  | lst h1 h2 h3 _ ih => obtain ⟨k, rfl⟩ : ∃ k, m = k + 1 := ⟨m - 1, by omega⟩; exact .lst h1 h2 h3 fun i x d a b => ih i x d a b (by omega)
  | tup h1 h2 h3 _ ih => obtain ⟨k, rfl⟩ : ∃ k, m = k + 1 := ⟨m - 1, by omega⟩; exact .tup h1 h2 h3 fun i x d a b => ih i x d a b (by omega)
  in #guard_msgs (pass all) in example : True := trivial
set_option Elab.async true in
theorem yesT {σ : L2.St} {H : Hp} {A B : Hp → Prop} (h : A H) : tYes σ H fun b H3 => if b = true then A H3 else B H3 := iteT (A := A H) (B := B H) h
  in #guard_msgs (pass all) in example : True := trivial
/-- a def of the text, where it stands and how it is called -/
structure Def (K : PySem.W.Frag) (mg : Str → Option Value) (name : Str) (st : Stmt) (f : Addr) (fd : FuncData) (ps : List Str) : Prop where
  fn : Fun K name name st f fd
  mg : mg name = some (.ref f)
  b : Binds K fd ps []
/-! rules whose written part is a letter -/
section
variable {X : Cx} {K : PySem.W.Frag}
theorem ixL (h : X.K = K) : IxR X (rIxL K) := h ▸ ix_list
theorem ixT (h : X.K = K) : IxR X (rIxT K) := h ▸ ix_tup
def rLenQ (K : PySem.W.Frag) : List V → Hp → VK → Prop := fun xs H Q => ∃ p ys, xs = [.ref p] ∧ (SqL K H p ys ∨ SqT K H p ys) ∧ Q (.int (ys.length : Nat)) H
theorem lenQ (h : X.K = K) : CallR X (.builtin "len") (rLenQ K) := h ▸ call_len_seq
def rLenA (K : PySem.W.Frag) : List V → Hp → VK → Prop := fun xs H Q => ∃ x n, xs = [x] ∧ LenV K x H n ∧ Q (.int (n : Nat)) H
theorem isiK (h : X.K = K) : CallR X (.builtin "isinstance") (rIsi K) := h ▸ call_isi
theorem eqDK (h : X.K = K) (hu : X.A.units + 64 < cLine) : OpR X (compareOp .Eq) (rEqD K) := h ▸ op_eqD hu
theorem neDK (h : X.K = K) (hu : X.A.units + 64 < cLine) : OpR X (compareOp .NotEq) (rNeD K) := h ▸ op_neD hu
theorem pi_listK {tg l : Expr} {tl : TE} (h : X.K = K) (hl : PE X l tl) : PI X tg l (iList K tl) := h ▸ pi_list hl
theorem pi_tupK {tg l : Expr} {tl : TE} (h : X.K = K) (hl : PE X l tl) : PI X tg l (iTup K tl) := h ▸ pi_tup hl
set_option Elab.async true in
theorem pg_tupK {es : List Expr} {k : Nat} {pos : Pos} {t : TGs} {n : Nat} (h : X.K = K) (hc : X.calm = true) (ht : PGs X es t) (hn : (assignEach es X.env).length = n := by rfl) (hst : (assignEach es X.env).findIdx? (·.1) = none := by rfl) :
    PG X (.Tuple es k pos) (gTup K n t) := h ▸ pg_tup hc ht hn hst
  in #guard_msgs (pass all) in example : True := trivial
/-- a new slice, a new list of what a thing holds -/
def rSlLI (K : PySem.W.Frag) : V → Option Int → Option Int → Hp → VK → Prop := fun x lo hi H Q => ∃ a xs, x = .ref a ∧ SqL K H a xs ∧ ∀ p H', Same H H' → H p = none → H' p = some (.lst (cutV xs lo hi)) → Q (.ref p) H'
set_option Elab.async true in
theorem slL (h : X.K = K) : SlR X (rSlLI K) := fun pins s σ H x v vl vu lo hi sl Q I rx hs pl pu ⟨a, xs, e, q, k⟩ =>
  sl_list pins s σ H x v vl vu lo hi sl Q I rx hs pl pu ⟨a, xs, e, h ▸ q, fun p hp => k p _ (same_new hp) hp upd_same⟩
  in #guard_msgs (pass all) in example : True := trivial
def rListI (K : PySem.W.Frag) : List V → Hp → VK → Prop := fun xs H Q => ∃ p ys, xs = [.ref p] ∧ (SqL K H p ys ∨ SqT K H p ys) ∧ ∀ l H', Same H H' → H l = none → H' l = some (.lst ys) → Q (.ref l) H'
set_option Elab.async true in
theorem listI (h : X.K = K) : CallR X (.type "list") (rListI K) := fun pins s σ H xs us Q I r ⟨p, ys, e, q, k⟩ =>
  call_list_of pins s σ H xs us Q I r ⟨p, ys, e, h ▸ q, fun l hl => k l _ (same_new hl) hl upd_same⟩
  in #guard_msgs (pass all) in example : True := trivial
end
/-! lists of fractions: addresses, tops, bottoms -/
abbrev Fq := Addr × Int × Int
def refs (l : List Fq) : List V := l.map fun z => V.ref z.1
def dat (z : Fq) : PyData := .tuple [.int z.2.1, .int z.2.2]
structure FqAt (H : Hp) (n : Nat) (z : Fq) : Prop where
  at_ : H z.1 = some (.tup [.int z.2.1, .int z.2.2])
  low : IsLow z.2.1 z.2.2
  ta : z.2.1.natAbs ≤ 10 ^ 41 + n
  tb : z.2.2.natAbs ≤ 10 ^ 41 + n
def FrL (H : Hp) (n : Nat) (l : List Fq) : Prop := ∀ z ∈ l, FqAt H n z
set_option Elab.async true in
theorem eqv_pair {a b c d : Int} : PyData.eqv (.tuple [.int a, .int b]) (.tuple [.int c, .int d]) = decide (a = c ∧ b = d) := by
  show ((a == c) && ((b == d) && true)) = decide (a = c ∧ b = d)
  rw [Bool.and_true, Bool.decide_and]
  rfl
  in #guard_msgs (pass all) in example : True := trivial
/-! data of any make beside the box p -/
inductive Da (p : Addr) (H : Hp) : Nat → V → PyData → Prop
  | non (n : Nat) : Da p H (n + 1) .non .none
  | bl (n : Nat) (b : Bool) : Da p H (n + 1) (.bl b) (.bool b)
  | int (n : Nat) (i : Int) : Da p H (n + 1) (.int i) (.int i)
  | str (n : Nat) (x : Str) : Da p H (n + 1) (.str x) (.str x)
  | lst {n : Nat} {a : Addr} {xs : List V} {ds : List PyData} : a ≠ p → H a = some (.lst xs) → xs.length = ds.length → xs.length ≤ 100000 → (∀ (i : Nat) (x : V) (d : PyData), xs[i]? = some x → ds[i]? = some d → Da p H n x d) → Da p H (n + 1) (.ref a) (.list ds)
  | tup {n : Nat} {a : Addr} {xs : List V} {ds : List PyData} : a ≠ p → H a = some (.tup xs) → xs.length = ds.length → xs.length ≤ 100000 → (∀ (i : Nat) (x : V) (d : PyData), xs[i]? = some x → ds[i]? = some d → Da p H n x d) → Da p H (n + 1) (.ref a) (.tuple ds)
set_option Elab.async true in
theorem Da.up {p : Addr} {H : Hp} {n m : Nat} {v : V} {d : PyData} (h : Da p H n v d) : n ≤ m → Da p H m v d := by
  intro le
  induction h generalizing m with
  | non n => obtain ⟨k, rfl⟩ : ∃ k, m = k + 1 := ⟨m - 1, by omega⟩; exact .non k
  | bl n b => obtain ⟨k, rfl⟩ : ∃ k, m = k + 1 := ⟨m - 1, by omega⟩; exact .bl k b
  | int n i => obtain ⟨k, rfl⟩ : ∃ k, m = k + 1 := ⟨m - 1, by omega⟩; exact .int k i
  | str n x => obtain ⟨k, rfl⟩ : ∃ k, m = k + 1 := ⟨m - 1, by omega⟩; exact .str k x
  | lst h0 h1 h2 h3 _ ih => obtain ⟨k, rfl⟩ : ∃ k, m = k + 1 := ⟨m - 1, by omega⟩; exact .lst h0 h1 h2 h3 fun i x d a b => ih i x d a b (by omega)
  | tup h0 h1 h2 h3 _ ih => obtain ⟨k, rfl⟩ : ∃ k, m = k + 1 := ⟨m - 1, by omega⟩; exact .tup h0 h1 h2 h3 fun i x d a b => ih i x d a b (by omega)
  in #guard_msgs (pass all) in example : True := trivial
/-- each of a row is such data -/
def AllDa (p : Addr) (H : Hp) (n : Nat) (xs : List V) : Prop := ∀ x ∈ xs, ∃ d, Da p H n x d
theorem AllDa.nil {p : Addr} {H : Hp} {n : Nat} : AllDa p H n [] := fun x hx => absurd hx List.not_mem_nil
set_option Elab.async true in
theorem AllDa.cons {p : Addr} {H : Hp} {n : Nat} {x : V} {xs : List V} (h : ∃ d, Da p H n x d) (t : AllDa p H n xs) : AllDa p H n (x :: xs) := fun y hy => by
  rcases List.mem_cons.mp hy with e | e
  · rw [e]
    exact h
  · exact t y e
  in #guard_msgs (pass all) in example : True := trivial
set_option Elab.async true in
theorem AllDa.one {p : Addr} {H : Hp} {n m : Nat} {x : V} (h : ∃ d, Da p H n x d) (le : n ≤ m) : AllDa p H m [x] := .cons (h.elim fun d q => ⟨d, q.up le⟩) .nil
  in #guard_msgs (pass all) in example : True := trivial
set_option Elab.async true in
theorem BoxAt.new {H : Hp} {p a : Addr} {n : Nat} (h : BoxAt H p n) (e : H a = none) : a ≠ p := by
  obtain ⟨o, ho⟩ := h.some
  exact (ne_of_none ho e).symm
  in #guard_msgs (pass all) in example : True := trivial
/-- which kinds of built-in classes a data is of -/
def isTupD : PyData → Bool
  | .tuple _ => true
  | _ => false
def isIntD : PyData → Bool
  | .int _ => true
  | .bool _ => true
  | _ => false
def isBoolD : PyData → Bool
  | .bool _ => true
  | _ => false
def isListD : PyData → Bool
  | .list _ => true
  | _ => false
def isStrD : PyData → Bool
  | .str _ => true
  | _ => false
structure Kinds (K : PySem.W.Frag) (H : Hp) (v : V) (d : PyData) (t : String) : Prop where
  ty : TyX K H v (.type t)
  tup : kitB t "tuple" = some (isTupD d)
  lst : kitB t "list" = some (isListD d)
  int : kitB t "int" = some (isIntD d)
  bool : kitB t "bool" = some (isBoolD d)
  str : kitB t "str" = some (isStrD d)
/-- xs + ys, a new list -/
def rCatI : R2 := fun x y H Q => ∃ l b xs zs, x = .ref l ∧ y = .ref b ∧ H l = some (.lst xs) ∧ H b = some (.lst zs) ∧ xs.length + zs.length ≤ sizeLine ∧ ∀ p H', Same H H' → H p = none → H' p = some (.lst (xs ++ zs)) → Q (.ref p) H'
set_option Elab.async true in
theorem op_catI {X : Cx} : OpR X (binaryOp .Add) rCatI := fun pins s σ H x y v u Q I rx ry ⟨l, b, xs, zs, e1, e2, h1, h2, z, k⟩ =>
  op_cat pins s σ H x y v u Q I rx ry ⟨l, b, xs, zs, e1, e2, h1, h2, z, fun p hp => k p _ (same_new hp) hp upd_same⟩
  in #guard_msgs (pass all) in example : True := trivial
/-- a number; a fraction -/
def isNumD (d : PyData) : Bool := isIntD d && !isBoolD d
def isFracD : PyData → Bool
  | .tuple [.int t, .int b] => decide (0 < b) && decide (Nat.gcd t.natAbs b.natAbs = 1)
  | _ => false
set_option Elab.async true in
theorem frac_no {d e : PyData} (h : isNumD d = false ∨ isNumD e = false) : isFracD (.tuple [d, e]) = false := by
  cases d <;> cases e <;> first | rfl | (rcases h with h | h <;> cases h)
  in #guard_msgs (pass all) in example : True := trivial
set_option Elab.async true in
theorem frac_len {ds : List PyData} (h : ds.length ≠ 2) : isFracD (.tuple ds) = false := by
  match ds, h with
  | [], _ => rfl
  | [d], _ => cases d <;> rfl
  | [_, _], h => exact absurd rfl h
  | d :: e :: _ :: _, _ => cases d <;> cases e <;> rfl
  in #guard_msgs (pass all) in example : True := trivial
set_option Elab.async true in
theorem take_one {α : Type} {l : List α} {i : Nat} {x : α} (h : l[i]? = some x) : l.take (i + 1) = l.take i ++ [x] := by
  rw [List.take_add_one, h] <;> rfl
  in #guard_msgs (pass all) in example : True := trivial
end KR
/-! ### texts -/
namespace KR
open PySem PySem.Spec PyProof.Rows L2
section
variable {X : Cx} {K : PySem.W.Frag}
/-- sep.join(reversed(xs)), xs a list of texts -/
def tJoinRev (K : PySem.W.Frag) (to te : TE) : TE := fun σ H Q => to σ H fun x H1 => (∃ a, x = .str a) ∧ te σ H1 fun v H2 => ∃ (a : Str) (q : Addr) (ys : List Str), x = .str a ∧ v = .ref q ∧ SqL K H2 q (ys.map V.str) ∧ (ys.map (·.length)).sum + ys.length * a.length ≤ 16777216 ∧ Q (.str (Txt.join a ys.reverse)) H2
end
/-! texts as rows of codes -/
abbrev S (l : List Nat) : Str := ⟨l.toArray⟩
theorem S_len (l : List Nat) : (S l).length = l.length := by rw [TL.len_tl]
set_option Elab.async true in
/-- text times a number from 0 -/
theorem op_mul_str {X : Cx} : OpR X (binaryOp .Mult) (fun x y H Q => ∃ (a : Str) (n : Nat), x = .str a ∧ y = .int (n : Int) ∧ a.length * n ≤ 100000 ∧ n ≤ 100000 ∧ Q (.str (Txt.mul a n)) H) := by
  intro pins s σ H x y v u Q I rx ry h
  obtain ⟨a, n, rfl, rfl, hz, hn, q⟩ := h
  obtain ⟨t, rfl⟩ := rx
  obtain ⟨t', rfl⟩ := ry
  refine SB.mul ⟨?_, fun h1 h2 => ?_, fun h1 h2 => ?_⟩ fun t2 k => ⟨.str _, H, I.tok _, ⟨_, rfl⟩, q⟩
  · rw [decide_eq_false (by omega), decide_eq_false (by omega)] <;> rfl
  · have n1 : (1 : Int) ≤ (n : Int) := by omega
    intro bad
    have b2 : ((2 ^ 63 - 1 : Int)) / (n : Int) ≥ (2 ^ 63 - 1 : Int) / 100000 := by
      refine Int.le_ediv_of_mul_le (by omega) ?_
      have e : (2 ^ 63 - 1 : Int) / 100000 * (n : Int) ≤ (2 ^ 63 - 1 : Int) / 100000 * 100000 := Int.mul_le_mul_of_nonneg_left (by omega) (by decide)
      exact Int.le_trans e (by decide)
    have a9 : a.length ≤ 100000 := by
      have : a.length * 1 ≤ a.length * n := Nat.mul_le_mul_left _ (by omega)
      omega
    have e3 : (2 ^ 63 - 1 : Int) / 100000 = 92233720368547 := by decide
    omega
  · rw [Int.toNat_natCast]
    exact decide_eq_false (by have := small hz; omega)
  in #guard_msgs (pass all) in example : True := trivial
/-- one to so many figures -/
def figs (l : List Nat) : Bool := !l.isEmpty && l.all fun c => decide (48 ≤ c) && decide (c ≤ 57)
/-- a fraction's text -/
def fracL (t b : Int) : List Nat := (if t < 0 then [45] else []) ++ (TL.numL t.natAbs ++ (if b = 1 then [] else 47 :: TL.numL b.natAbs))
/-- ahead of the first stroke, whether there is one, behind it -/
def cutL : List Nat → List Nat × Bool × List Nat
  | [] => ([], false, [])
  | c :: r => if c = 47 then ([], true, r) else (c :: (cutL r).1, (cutL r).2)
end KR
/-! ### defs that ask repr: no repr is under way around them -/
namespace KR
open PySem PySem.Spec PyProof.Rows L2
section
variable {P : Program} {w : World} {K : PySem.W.Frag} {mg : Str → Option Value} {base : Heap}
structure FnG (P : Program) (w : World) (K : PySem.W.Frag) (mg : Str → Option Value) (base : Heap) (k : Nat) (f : Addr) (fd : FuncData) (ps : List Str) (sp : Sp) : Prop where
  many : ∀ vs H Q E, sp vs H Q E → vs.length = ps.length
  does : ∀ (A : Around) (outer : List Env) (s : Shared) (H : Hp) (args : Args) (us : List Value) (vs : List V) (Q : VK) (E : XK), Room k A → A.guards = some [] → Env0 P w K mg base A outer s H → BindsTo s fd args (ps.zip us) → Vals vs us →
    sp vs H Q E → codeAny (model P w) A (.call (.ref f) args) (CR CX0 outer P w H s Q E) s
set_option Elab.async true in
/-- the end of a def's body is the end of its call -/
theorem body_end {N : List Str} {qual : Str} {sc : Scope} {f : Addr} {cdv : Value} {A : Around} {outer : List Env} {s s' : Shared} {H : Hp} {Q : VK} {E : XK} {fl : Flow}
    (h : SP (cxOf CX0 P w K mg base N qual sc f cdv A outer s H E) [] { nx := fun _ H' => Q .non H', rt := Q } fl s') : CR CX0 outer P w H s Q E (.ok (.ret (match fl with | .ret u => u | _ => .none))) s' ∧ (∀ u, fl = .ret u ∨ fl = .next ∨ fl = .brk ∨ fl = .cont → True) ∧ fl ≠ .brk ∧ fl ≠ .cont := by
  cases fl <;> simp only [SP] at h
  case next => obtain ⟨_, H', J, q⟩ := h; exact ⟨⟨V.non, H', J.os, J.bare, J.base, J.hok, rfl, q⟩, fun _ _ => trivial, nofun, nofun⟩
  case ret u => obtain ⟨v, _, H', J, rv, q⟩ := h; exact ⟨⟨v, H', J.os, J.bare, J.base, J.hok, rv, q⟩, fun _ _ => trivial, nofun, nofun⟩
  case brk => exact absurd h.choose_spec.choose_spec.2 id
  case cont => exact absurd h.choose_spec.choose_spec.2 id
  in #guard_msgs (pass all) in example : True := trivial
set_option Elab.async true in
theorem okG {x qual : Str} {st : Stmt} {f : Addr} {fd : FuncData} {N ps : List Str} {k : Nat} {sp : Sp} (F : Fun K x qual st f fd) (S : FnScope N ps (defScope st)) (many : ∀ vs H Q E, sp vs H Q E → vs.length = ps.length)
    (body : ∀ (cdv : Value) (A : Around) (outer : List Env) (s : Shared) (H : Hp) (vs : List V) (Q : VK) (E : XK), Room k (A.deeper (envOfC qual (defScope st) s.heap.objs.size f cdv)) → A.guards = some [] → sp vs H Q E →
      ∃ t, PSs (cxOf CX0 P w K mg base N qual (defScope st) f cdv A outer s H E).nox (defBody st) t ∧ t { nx := fun _ H' => Q .non H', rt := Q } (start N vs) H) : FnG P w K mg base (k + 1) f fd ps sp := by
  obtain ⟨_, _, _, _, _, _, cdv, _, _, rfl, lk, hcd⟩ := F.ex
  refine ⟨many, ?_⟩
  intro A outer s H args us vs Q E hr hg e0 hb rv hsp
  obtain ⟨t, ht, hq⟩ := body cdv A outer s H vs Q E (hr.deeper _) hg hsp
  have inK : K.In s.heap := e0.mod.kin.keeps fun b o q => (e0.bs b o q).1
  apply codeAny_call_function hr.depth (inK _ _ lk) rfl S.co S.gen rfl (PySem.W.codeRec_of inK hcd)
  refine hb _ _ _ _ (wpAny_newFunctionEnv_cells S.kind ?_ ?_)
  · rintro ⟨n, v⟩ hy
    exact (S.par n (List.of_mem_zip hy).1).imp id fun q => ⟨q, PySem.W.cellsFrom_some _ _ _ (Or.inl q)⟩
  · rintro env rfl s1 made
    refine ⟨(e0.mod.nolimit.keeps fun b o q => (e0.bs b o q).1).keeps made.toInCall.keep, codeAny_func ?_⟩
    have I := inv_start (CX := CX0) (E := E) S hr.hd e0 (many _ _ _ _ hsp) rv made
    refine wpAny_mono (ht.nox.run [] s1 (start N vs) H _ I hq) (fun fl s' hs => ?_) fun _ _ z => z
    obtain ⟨r, _, n1, n2⟩ := body_end hs
    cases fl with
    | next => exact r
    | ret u => exact r
    | brk => exact absurd rfl n1
    | cont => exact absurd rfl n2
  in #guard_msgs (pass all) in example : True := trivial
end
section
variable {X : Cx} {k : Nat} {f : Addr} {fd : FuncData} {ps : List Str} {sp : Sp} {ds : List Value} {dvs : List V} {E : XK} {x : Str} {p pos : Pos} {e : Expr} {es : List Expr} {t : TA}
end
/-- repr of data that is no text -/
def rReprD (K : PySem.W.Frag) : List V → Hp → VK → Prop := fun xs H Q => ∃ (a : Addr) (d : PyData), xs = [.ref a] ∧ Dp K H (.ref a) d ∧ d.showable = true ∧ d.hasDict = false ∧ d.depth ≤ 60 ∧ d.shown.length ≤ sizeLine ∧ Q (.str d.shown) H
section
variable {P : Program} {w : World} {K : PySem.W.Frag} {mg mb : Str → Option Value} {k : Nat} {fa a : Addr} {fd : FuncData} {x : Str} {sp : Sp} {s₁ : Shared} {vs : List Value} {ns : List Int}
/-- what is tracked when the law is called: the script, unless the module itself made it -/
def scr (K : PySem.W.Frag) (a : Addr) (ob : Obj) (ns : List Int) : Hp := fun b => if b = a ∧ K.lookup a = none then some (.frz ob (.lst (ns.map V.int))) else none
set_option Elab.async true in
theorem scr_some {ob : Obj} {b : Addr} {u : HO} (h : scr K a ob ns b = some u) : b = a ∧ K.lookup a = none ∧ u = .frz ob (.lst (ns.map V.int)) := by
  unfold scr at h
  split at h
  · rename_i c
    exact ⟨c.1, c.2, (Option.some.inj h).symm⟩
  · cases h
  in #guard_msgs (pass all) in example : True := trivial
end
end KR
/-! ### all(test for x in ..): the generator expression's own frame, its test read like a def's body -/
namespace KR
open PySem PySem.Spec PyProof.Rows L2
/-- the frame's scope: one name of its own, nothing captured -/
structure GnS (scope : Scope) (x : Str) : Prop where
  kind : scope.kind = .function
  co : scope.isCoroutine = false
  cell : ∀ y ∈ scope.names, y.2 ≠ .cell
  free : ∀ y ∈ scope.names, y.2 ≠ .free
  dot : scope.names.lookup (".0" : Str) = some NameKind.local
  loc : scope.names.lookup x = some .local
/-- the frame's environment, its around -/
abbrev gEnv (X : Cx) (scope : Scope) (C : Addr) (code : Value) : Env := genEnv scope [] C code builtinsNs X.env
abbrev gAr (X : Cx) (ge : Expr) (it : Addr) (env : Env) : Around := X.A.in1.in1.over (.compLoop ge 0 (.ref it) .none env) []
/-- the frame's context: it began at s, H; fp: what is walked -/
abbrev gCx (X : Cx) (ge : Expr) (it : Addr) (x : Str) (s : Shared) (H : Hp) (env : Env) (fp : List Addr) : Cx :=
  { prog := X.prog, w := X.w, K := X.K, mg := X.mg, base := X.base, A := gAr X ge it env, N := [x], s_0 := s, H_0 := H, env := env, outer := X.stack, stack := env :: X.stack, ex := fp, fn := fun _ => false, calm := true, pn := [], xe := fun _ _ => False }
section
variable {X : Cx} {pins : List (Addr × Obj)} {σ : L2.St} {H : Hp} {s : Shared}
set_option Elab.async true in
theorem inv_gens {g' : Array GenState} (I : Inv X pins σ H s) (hg : AllBare g') : Inv X pins σ H { s with gens := g' } :=
  I.call (h' := s.heap) (g' := g') (t' := s.toks) (d' := s.drawn) (ch := []) Un.refl I.hok hg fun b z => absurd z List.not_mem_nil
  in #guard_msgs (pass all) in example : True := trivial
set_option Elab.async true in
theorem bare_set {a : Array GenState} {g : Nat} {x : GenState} (h : AllBare a) (hx : x.bare = true) : AllBare (a.setIfInBounds g x) := fun y hy => by
  rcases Array.mem_or_eq_of_mem_setIfInBounds hy with z | z
  · exact h y z
  · rw [z]
    exact hx
  in #guard_msgs (pass all) in example : True := trivial
set_option Elab.async true in
theorem inv_setGen {g : Nat} {x : GenState} (I : Inv X pins σ H s) (hx : x.bare = true) : Inv X pins σ H (s.setGen g x) := inv_gens I (bare_set I.bare hx)
  in #guard_msgs (pass all) in example : True := trivial
set_option Elab.async true in
theorem room_gen {k : Nat} (r : Room (k + 1) X.A) {elt : Expr} {cs : List Comprehension} {sc : Scope} {p : Pos} {it : Addr} {env : Env} : Room k (gAr X (.GeneratorExp elt cs sc p) it env) := by
  obtain ⟨h1, h2, h3⟩ := r
  refine ⟨h1, ?_, ?_⟩
  · show X.A.depth + 0 + 1 + 3 * k + 5 < recursionLimit
    omega
  · show X.A.units + 1 + 1 + 0 + 3 + 16 * k + 200 < cLine
    omega
  in #guard_msgs (pass all) in example : True := trivial
set_option Elab.async true in
theorem gen_ok {elt : Expr} {cs : List Comprehension} {sc : Scope} {gp : Pos} {it : Addr} {x : Str} {scope : Scope} {code : Value} {fp : List Addr} (I : Inv X pins σ H s) (S : GnS scope x) (hh : X.A.handled = none) (hfp : ∀ b ∈ fp, FpOk X pins H b ∧ b < s.heap.objs.size) :
    (gCx X (.GeneratorExp elt cs sc gp) it x s H (gEnv X scope s.heap.objs.size code) fp).Ok := by
  have kd : ∀ y k, scope.names.lookup y = some k → k ≠ .cell ∧ k ≠ .free := fun y k e => ⟨S.cell _ (PySem.mem_of_lookup e), S.free _ (PySem.mem_of_lookup e)⟩
  exact {
    mod := I.ok.mod, kind := S.kind, glob := I.ok.glob, blt := rfl, above := Nat.le_refl _
    inj := fun y z c e _ => (by cases e)
    has := fun y h => (by
      rcases h with h | h
      · exact absurd rfl (kd y _ h).1
      · exact absurd rfl (kd y _ h).2)
    cab := fun y c z _ => (by cases z)
    hd := fun _ => hh
    frames := (by
      show pushEnvs [gEnv X scope s.heap.objs.size code] (pushEnvs [] X.A.frames) = _
      rw [I.ok.frames] <;> rfl)
    stk := .inr ⟨rfl, rfl⟩
    exf := fun b hb => ⟨Nat.ne_of_lt (hfp b hb).2, fun y c e => (by cases e)⟩
    bs := I.bs, bsz := Nat.le_trans I.ok.bsz I.sz
    noex := fun b o e hb => (by
      obtain ⟨_, _, _, old | old, _⟩ := (hfp b hb).1
      · exact I.ok.noex b o e old
      · have z := Heap.lt_size e
        have z2 := I.ok.bsz
        exact Nat.lt_irrefl b (Nat.lt_of_lt_of_le z (Nat.le_trans z2 old)))
    exfs := fun b hb hf => (by
      obtain ⟨⟨_, n1, n2, _⟩, _⟩ := hfp b hb
      rcases List.mem_cons.mp (I.stkSub b hf) with e | e
      · exact n1 e
      · exact n2 e)
    funs := I.stack, frf := I.stkFree }
  in #guard_msgs (pass all) in example : True := trivial
set_option Elab.async true in
/-- the frame as it begins: its space at C, its generator behind it -/
theorem gen_inv {elt : Expr} {cs : List Comprehension} {sc : Scope} {gp : Pos} {it : Addr} {x : Str} {scope : Scope} {code : Value} {fp : List Addr} {h' : Heap} {G : Obj} {g' : Array GenState} {tk : Nat} {m : Str → Option Value} (I : Inv X pins σ H s) (S : GnS scope x) (hh : X.A.handled = none)
    (hfp : ∀ b ∈ fp, FpOk X pins H b ∧ b < s.heap.objs.size) (hn : h'.Ns s.heap.objs.size m) (hsz : h'.objs.size = s.heap.objs.size + 1) (kp : ∀ b o, s.heap.get? b = some o → h'.get? b = some o) (hg : AllBare g') (hG : ∀ v, G.data ≠ .cell v) (hF : G.isFreed = false) :
    Inv (gCx X (.GeneratorExp elt cs sc gp) it x s H (gEnv X scope s.heap.objs.size code) fp) [(h'.objs.size, G)] [none] H { s with heap := h'.push G, gens := g', toks := tk } := by
  have kp2 : ∀ b o, s.heap.get? b = some o → (h'.push G).get? b = some o := fun b o e => Heap.get?_push_of_some _ (kp b o e)
  have gt : s.heap.objs.size ≤ h'.objs.size := by omega
  exact {
    ok := gen_ok I S hh hfp, os := rfl, bare := hg, base := Un.kept kp2
    loc := ⟨m, hn.push _, fun i y v _ e _ => (by
      match i, e with
      | 0, e => cases e
      | j + 1, e => cases e)⟩
    cell := fun y c e => (by cases e)
    free := I.hok.fresh (Nat.le_refl _)
    freeC := fun y c e => (by cases e)
    pin := fun p hp => (by
      obtain rfl := List.mem_singleton.mp (show p ∈ [(h'.objs.size, G)] from hp)
      refine ⟨Heap.get?_push_size _ hF, I.hok.fresh gt, fun z => ?_, fun z => ?_, hG⟩
      · have z2 : h'.objs.size = s.heap.objs.size := z
        omega
      · rcases List.mem_cons.mp (I.stkSub _ z) with e | e
        · have z2 := I.lt
          rw [← e] at z2
          have z3 : h'.objs.size < s.heap.objs.size := z2
          omega
        · exact I.nofs gt e)
    hok := I.hok.kept kp2, len := rfl }
  in #guard_msgs (pass all) in example : True := trivial
end
/-- what is so between two steps of the generator, i things taken -/
def GSt (Y : Cx) (pn : List (Addr × Obj)) (tn : Nat → Heap → Prop) (fp : List Addr) (W : Nat → Hp → Prop) (i : Nat) (s : Shared) : Prop :=
  ∃ H', Inv Y pn [none] H' s ∧ tn i s.heap ∧ (∀ b ∈ fp, H' b = none) ∧ W i H'
/-- how it ends, how it hands out -/
def gFin (Y : Cx) (pn : List (Addr × Obj)) (Q : VK) (b : Bool) (s : Shared) : Prop := ∃ H', Inv Y pn [none] H' s ∧ Q (.bl b) H'
abbrev gEnd (Y : Cx) (pn : List (Addr × Obj)) (Q : VK) : GenEnd := fun _ _ r s1 => r = .ok .next ∧ gFin Y pn Q true s1
def gPro (Y : Cx) (pn : List (Addr × Obj)) (tn : Nat → Heap → Prop) (fp : List Addr) (W : Nat → Hp → Prop) (Q : VK) : Protocol := fun _ _ v s kap =>
  ∃ b : Bool, v = .bool b ∧ (b = true → ∃ i, GSt Y pn tn fp W i s ∧ ∀ s', GSt Y pn tn fp W i s' → kap (.send .none) s') ∧ (b = false → gFin Y pn Q false s)
/-- one turn's reading -/
def GTurn (J : It) (te : TE) (n : Nat) (W : Nat → Hp → Prop) (Q : VK) : Prop := ∀ i H2, W i H2 →
  (J.stop i H2 ∧ Q (.bl true) H2) ∨ (J.go i H2 ∧ i < n ∧ ∀ x H3, J.yld i H2 x H3 → te [some x] H3 fun u H4 => ∃ b, u = .bl b ∧ if b = true then W (i + 1) H4 else Q (.bl false) H4)
section
variable {X : Cx} {elt iter : Expr} {x : Str} {px gp : Pos} {sc : Scope} {it C : Addr} {s₁ : Shared} {H₁ : Hp} {code : Value} {fp : List Addr} {pn : List (Addr × Obj)} {tn : Nat → Heap → Prop} {J : It} {te : TE} {n : Nat} {W : Nat → Hp → Prop} {Q : VK}
set_option Elab.async true in
theorem gen_seg {Y : Cx} {env : Env} (hY : Y = gCx X (.GeneratorExp elt [⟨.Name x px, iter, [], 0⟩] sc gp) it x s₁ H₁ env fp) (hco : env.scope.isCoroutine = false) (T : Turn X.prog X.w X.K (.Name x px) J fp it tn)
    (pg : PG Y (.Name x px) (gName 0)) (pe : PE Y elt te) (turn : GTurn J te n W Q) (hpn : ∀ b ∈ fp, ∀ p ∈ pn, p.1 ≠ b) :
    ∀ (m i : Nat) (s s₀ : Shared), n - i = m → GSt Y pn tn fp W i s → Seg (model X.prog X.w) X.A.in1.in1 (gEnd Y pn Q) (gPro Y pn tn fp W Q) m s₀
      (.compLoop (.GeneratorExp elt [⟨.Name x px, iter, [], 0⟩] sc gp) 0 (.ref it) .none env) ((model X.prog X.w).den (.compLoop (.GeneratorExp elt [⟨.Name x px, iter, [], 0⟩] sc gp) 0 (.ref it) .none env)) [] s := by
  have hA : Y.A = X.A.in1.in1.over (.compLoop (.GeneratorExp elt [⟨.Name x px, iter, [], 0⟩] sc gp) 0 (.ref it) .none env) [] := by rw [hY]
  have hP : Y.prog = X.prog := by rw [hY]
  have hW : Y.w = X.w := by rw [hY]
  have hK : Y.K = X.K := by rw [hY]
  have hC : Y.calm = true := by rw [hY]
  have hE : Y.env = env := by rw [hY]
  have hX : Y.ex = fp := by rw [hY]
  have hN : Y.pn = [] := by rw [hY]
  have hxe : Y.xe = fun _ _ => False := by rw [hY]
  have stat : ∀ {σ' : L2.St} {H' : Hp} {s' : Shared}, Inv Y pn σ' H' s' → (∀ b ∈ fp, H' b = none) → ∀ b ∈ fp, FpOk Y pn H' b := fun {σ' H' s'} I' hn b hb => by
    have hb2 : b ∈ Y.ex := by rw [hX]; exact hb
    refine ⟨hn b hb, (I'.ok.exf b hb2).1, I'.ok.exfs b hb2, .inl hb2, fun y c e => (I'.ok.exf b hb2).2 y c e, fun p hp => ?_⟩
    rw [hN] at hp
    exact hpn b hb p hp
  have runG := fun pins s σ H v u Q => pg.run pins s σ H v u Q
  have runE := fun pins s σ H Q => pe.run pins s σ H Q
  rw [hA, hP, hW, hE, hxe] at runG runE
  intro m
  induction m with
  | zero =>
    rintro i s s₀ hm ⟨H, I, st, nf, w⟩
    show Seg _ _ _ _ _ s₀ _ ((compTurn _ 0 (.ref it) .none env).onRaise (leaving env)) [] s
    rw [compTurn_gen, Sem.onRaise_eq_wrap]
    refine seg_bind_wrap (wpAny_standAt ?_)
    rcases turn i H w with ⟨stop, q⟩ | ⟨_, lt, _⟩
    · have td := T.done Y hP hW hK hC i pn s _ H (fun _ _ => False) I (stat I nf) st stop
      rw [hA] at td
      refine seg_bind_wrap (thnF td fun r s2 ⟨e, I2⟩ => ?_)
      rw [e]
      exact seg_end (.ok .next) ⟨rfl, H, I2, q⟩
    · exact absurd lt (by omega)
  | succ m ih =>
    rintro i s s₀ hm ⟨H, I, st, nf, w⟩
    show Seg _ _ _ _ _ s₀ _ ((compTurn _ 0 (.ref it) .none env).onRaise (leaving env)) [] s
    rw [compTurn_gen, Sem.onRaise_eq_wrap]
    refine seg_bind_wrap (wpAny_standAt ?_)
    rcases turn i H w with ⟨stop, q⟩ | ⟨go, lt, step⟩
    · have td := T.done Y hP hW hK hC i pn s _ H (fun _ _ => False) I (stat I nf) st stop
      rw [hA] at td
      refine seg_bind_wrap (thnF td fun r s2 ⟨e, I2⟩ => ?_)
      rw [e]
      exact seg_end (.ok .next) ⟨rfl, H, I2, q⟩
    · have ti := T.item Y hP hW hK hC i pn s _ H (fun _ _ => False) I (stat I nf) st go
      rw [hA] at ti
      refine seg_bind_wrap (thnF ti fun r s2 ⟨u, e, h2⟩ => ?_)
      rw [e]
      refine seg_bind_wrap (thnF h2 fun _ s3 ⟨y, H3, I3, r3, y3, st3, n3⟩ => ?_)
      have I3' := I3.pinned (stat I3 n3) (T.obj _ _ st3)
      refine seg_bind_wrap (thnF (runG _ s3 _ H3 y u _ I3' r3 (show gName 0 y [none] H3 (fun σ' H' => σ' = [some y] ∧ H' = H3) from ⟨rfl, rfl⟩)) fun _ s4 ⟨σ4, H4, I4, e4, e5⟩ => ?_)
      subst e4 e5
      refine seg_bind_wrap (wpAny_tests_nil ?_)
      simp only [if_true]
      have yo : ∀ v, yieldOut env v = yieldValue v := fun v => by
        unfold yieldOut
        rw [hco] <;> rfl
      simp only [yo]
      rw [Sem.bind_eq_wrap', Sem.bind_eq_wrap', Sem.wrap_wrap, Sem.wrap_wrap]
      refine seg_wrap (thnF (runE _ s4 _ _ _ I4 (step y _ y3)) fun v s5 ⟨yv, H5, I5, r5, b, e5, q5⟩ => ?_)
      subst e5
      obtain rfl : v = Value.bool b := r5
      have pin' : ∀ b ∈ fp, ∀ o, s3.heap.get? b = some o → s5.heap.get? b = some o ∧ H5 b = none := fun b hb o e =>
        let z := I5.pin (b, o) (List.mem_append_right _ (List.mem_append_right _ (mem_pinsAt hb e)))
        ⟨z.1, z.2.1⟩
      have I6 : Inv Y pn [none] H5 s5 := I5.unpinned.weak rfl fun j v e => by
        match j, e with
        | 0, e => cases e
        | j + 1, e => cases e
      have done : W (i + 1) H5 → GSt Y pn tn fp W (i + 1) s5 := fun w5 => ⟨H5, I6, T.keep _ _ _ st3 fun b hb o e => (pin' b hb o e).1, fun b hb => (by
        obtain ⟨o, e, _⟩ := T.obj _ _ st3 b hb
        exact (pin' b hb o e).2), w5⟩
      refine seg_at (seg_yield rfl rfl rfl ⟨b, rfl, fun hb => ?_, fun hb => ?_⟩)
      · rw [if_pos hb] at q5
        exact ⟨i + 1, done q5, fun s' hj => seg_again rfl (ih (i + 1) s' s' (by omega) hj)⟩
      · rw [if_neg (by rw [hb]; exact Bool.false_ne_true)] at q5
        exact ⟨H5, I6, q5⟩
  in #guard_msgs (pass all) in example : True := trivial
/-- the generator at a, its number g: what it does next -/
def GAt (M : Model) (A : Around) (Y : Cx) (pn : List (Addr × Obj)) (tn : Nat → Heap → Prop) (fp : List Addr) (W : Nat → Hp → Prop) (Q : VK) (g m : Nat) (s : Shared) : Prop :=
  ∃ i gs, GSt Y pn tn fp W i s ∧ s.gens[g]? = some gs ∧ ∀ s', GSt Y pn tn fp W i s' → gs.Goes M A (gEnd Y pn Q) (gPro Y pn tn fp W Q) m (.send .none) s'
set_option Elab.async true in
theorem gst_set {Y : Cx} {i g : Nat} {s : Shared} {y : GenState} (h : GSt Y pn tn fp W i s) (hy : y.bare = true) : GSt Y pn tn fp W i (s.setGen g y) := by
  obtain ⟨H', I, r⟩ := h
  exact ⟨H', inv_setGen I hy, r⟩
  in #guard_msgs (pass all) in example : True := trivial
set_option Elab.async true in
theorem fin_set {Y : Cx} {g : Nat} {s : Shared} {y : GenState} {b : Bool} (h : gFin Y pn Q b s) (hy : y.bare = true) : gFin Y pn Q b (s.setGen g y) := by
  obtain ⟨H', I, r⟩ := h
  exact ⟨H', inv_setGen I hy, r⟩
  in #guard_msgs (pass all) in example : True := trivial
set_option Elab.async true in
theorem fin_kept {Y : Cx} {s : Shared} {b : Bool} {h' : Heap} (h : gFin Y pn Q b s) (k : ∀ b o, s.heap.get? b = some o → h'.get? b = some o) : gFin Y pn Q b { s with heap := h' } := by
  obtain ⟨H', I, r⟩ := h
  exact ⟨H', I.kept (t' := s.toks) k, r⟩
  in #guard_msgs (pass all) in example : True := trivial
set_option Elab.async true in
theorem set_at {s : Shared} {g : Nat} {y : GenState} (h : g + 1 ≤ (s.setGen g y).gens.size) : (s.setGen g y).gens[g]? = some y := by
  have z : g < s.gens.size := by
    have e : (s.setGen g y).gens.size = s.gens.size := Array.size_setIfInBounds
    omega
  show (s.gens.setIfInBounds g y)[g]? = some y
  rw [Array.getElem?_setIfInBounds, if_pos rfl, if_pos z]
  in #guard_msgs (pass all) in example : True := trivial
set_option Elab.async true in
theorem all_run {Y : Cx} {a : Addr} {g : Nat} {G : Obj} {R : Result → Shared → Prop} (hp : (a, G) ∈ pn) (hG : ∀ h : Heap, h.get? a = some G → h.IsGen a g) (hh : X.A.handled = none) (hd : X.A.depth + 2 < recursionLimit)
    (hR : ∀ b s', gFin Y pn Q b s' → R (.ok (.ret (.bool b))) s') :
    ∀ (m : Nat) (s : Shared), GAt (model X.prog X.w) X.A.in1.in1 Y pn tn fp W Q g m s → codeAny (model X.prog X.w) X.A (.builtin "all.loop" ⟨[.ref a], []⟩) R s := by
  have turn : ∀ (m : Nat) (s : Shared), GAt (model X.prog X.w) X.A.in1.in1 Y pn tn fp W Q g m s →
      (∀ s', (∃ k, m = k + 1 ∧ GAt (model X.prog X.w) X.A.in1.in1 Y pn tn fp W Q g k s') → codeAny (model X.prog X.w) X.A (.builtin "all.loop" ⟨[.ref a], []⟩) R s') → codeAny (model X.prog X.w) X.A (.builtin "all.loop" ⟨[.ref a], []⟩) R s := by
    rintro m s ⟨i, gs, st, hgs, goes⟩ next
    obtain ⟨H, I, _⟩ := id st
    have gen : s.heap.IsGen a g := hG _ (I.pin (a, G) (List.mem_append_right _ hp)).1
    have hgl : g + 1 ≤ s.gens.size := (Array.getElem?_eq_some_iff.mp hgs).1
    refine codeAny_builtin (F.entry_all_loop) ?_
    rw [Around.under_plainId (F.plain_all_loop) _]
    show wpAny (model X.prog X.w) X.A.in1 (pyNext (.ref a) >>= _) _ _ s
    refine wpAny_bind (GenW.wpAny_gsz (n := g + 1) hgl (wpAny_pyNext_genexpQ (n := m) (P := fun _ _ s1 => gFin Y pn Q true s1) (Y := gPro Y pn tn fp W Q) hh I.nolimit (by show X.A.depth < recursionLimit; omega) gen hgs (goes _ (gst_set st rfl)) (fun v s1 gs' hb hv => ?_) (fun s1 hf h' hk => ?_)))
    · intro hgl2
      obtain ⟨b, rfl, yes, no⟩ := hv
      refine wpAny_bind (wpAny_holding (wpAny_truthy_bool ?_))
      refine wpAny_bind (wpAny_letGo ?_)
      cases b with
      | true =>
        obtain ⟨i2, st2, kap⟩ := yes rfl
        simp only [if_true]
        cases m with
        | zero => exact (kap s1 st2).elim
        | succ k => exact wpAny_pure ⟨plainId_quiet (F.plain_all_loop) _, next _ ⟨k, rfl, i2, gs', gst_set st2 hb, set_at hgl2, fun s' h => kap s' h⟩⟩
      | false =>
        simp only [Bool.false_eq_true, if_false]
        exact wpAny_bind (wpAny_rule (wpAny_pure (hR false _ (fin_set (no rfl) hb))))
    · intro _
      refine wpAny_bind (wpAny_rule (wpAny_pure ?_))
      exact hR true _ (fin_kept (fin_set hf rfl) hk)
  intro m
  induction m with
  | zero => exact fun s h => turn 0 s h fun s' ⟨k, e, _⟩ => (by cases e)
  | succ m ih => exact fun s h => turn (m + 1) s h fun s' ⟨k, e, z⟩ => ih s' (by cases e; exact z)
  in #guard_msgs (pass all) in example : True := trivial
end
/-- .. in the def: the table of the def's code may have grown ahead of it -/
def tAllG (P : Addr) (wi : TI) (te : TE) : TE := fun σ H Q => wi σ H fun J H1 => GxR.TabG H1 P ∧ ∃ (n : Nat) (W : Nat → Hp → Prop), (∀ H2, GxR.Tabbed P H1 H2 → W 0 H2) ∧ GTurn J te n W Q
set_option Elab.async true in
theorem gen_den {X : Cx} {elt iter : Expr} {x : Str} {px gp : Pos} {sc : Scope} {it : Addr} {env : Env} {fp : List Addr} {pn : List (Addr × Obj)} {tn : Nat → Heap → Prop} {W : Nat → Hp → Prop} {Q : VK} {Y : Cx} {J : It} {n : Nat} (T : Turn X.prog X.w X.K (.Name x px) J fp it tn)
    (loop : ∀ (s s₀ : Shared), GSt Y pn tn fp W 0 s → Seg (model X.prog X.w) X.A.in1.in1 (gEnd Y pn Q) (gPro Y pn tn fp W Q) n s₀ (.compLoop (.GeneratorExp elt [⟨.Name x px, iter, [], 0⟩] sc gp) 0 (.ref it) .none env)
      ((model X.prog X.w).den (.compLoop (.GeneratorExp elt [⟨.Name x px, iter, [], 0⟩] sc gp) 0 (.ref it) .none env)) [] s) (s s₀ : Shared) (st : GSt Y pn tn fp W 0 s) :
    Seg (model X.prog X.w) X.A.in1.in1 (gEnd Y pn Q) (gPro Y pn tn fp W Q) n s₀ (.compStart (.GeneratorExp elt [⟨.Name x px, iter, [], 0⟩] sc gp) 0 (.ref it) .none env)
      ((model X.prog X.w).den (.compStart (.GeneratorExp elt [⟨.Name x px, iter, [], 0⟩] sc gp) 0 (.ref it) .none env)) [] s := by
  have go := loop s s₀ st
  obtain ⟨H', I, st0, _⟩ := id st
  show Seg _ _ _ _ _ s₀ _ ((compStart _ 0 (.ref it) .none env).onRaise (leaving env)) [] s
  unfold compStart
  rw [Sem.onRaise_eq_wrap]
  show Seg _ _ _ _ _ s₀ _ ((ask >>= _).wrap _ _ _ _) [] s
  refine seg_bind_wrap (wpAny_askSetting ?_)
  split
  · exact seg_again rfl go
  · refine seg_bind_wrap (wpAny_rule ?_)
    show Seg _ _ _ _ _ s₀ _ ((standAt iter.pos >>= _).wrap _ _ _ _) [] s
    refine seg_bind_wrap (wpAny_standAt (seg_bind_wrap ?_))
    exact T.self _ 0 s _ _ st0 (seg_again rfl go)
  in #guard_msgs (pass all) in example : True := trivial
set_option Elab.async true in
theorem no_clo {cells : List (Str × Addr)} : ∀ (l : List (Str × NameKind)), (∀ y ∈ l, y.2 ≠ .free) → cloFrom cells l [] = []
  | [], _ => rfl
  | (n, k) :: r, h => by
    have z := no_clo (cells := cells) r fun y hy => h y (List.mem_cons_of_mem _ hy)
    have hk : k ≠ .free := h (n, k) List.mem_cons_self
    unfold cloFrom
    cases k <;> first | exact z | exact absurd rfl hk
  in #guard_msgs (pass all) in example : True := trivial
set_option Elab.async true in
theorem pe_allG {X : Cx} {c P : Addr} {elt iter : Expr} {x : Str} {px p pos gp : Pos} {scope : Scope} {wi : TI} {te : TE} {k : Nat}
    (hr : Room k X.A) (hg : Gl X "all") (hm : X.mg "all" = none) (hb : bootBuiltins "all" = some (.builtin "all")) (TB : GxR.TabB X.base X.mg c P) (hcode : X.env.code = .ref c) (S : GnS scope x) (hi : PI X (.Name x px) iter wi)
    (hel : ∀ (it C : Addr) (s : Shared) (H : Hp) (code : Value) (fp : List Addr), PE (gCx X (.GeneratorExp elt [⟨.Name x px, iter, [], 0⟩] scope gp) it x s H (gEnv X scope C code) fp) elt te)
    (hs : ∀ v, genFold iter X.env v = pure v)
    (he : starEach [.GeneratorExp elt [⟨.Name x px, iter, [], 0⟩] scope gp] X.env = (false, eval (.GeneratorExp elt [⟨.Name x px, iter, [], 0⟩] scope gp) X.env) :: starEach [] X.env := by rfl) :
    PE X (.Call (.Name "all" p) [.GeneratorExp elt [⟨.Name x px, iter, [], 0⟩] scope gp] [] pos) (tAllG P wi te) := by
  have dep := hr.dp
  refine ⟨fun pins s σ H Q I h => ?_⟩
  refine wpAny_Call_Name_kw (ld_blt I hg hm hb ?_)
  refine PyProof.Rows.callWith_builtin1 ?_ he (by rfl)
  rw [he]
  refine Calls.spliced_cons (wpAny_GeneratorExp_make (cl := []) S.co ?_ S.cell S.dot S.kind (by omega) ?_ hs)
  · rw [closure_ok (fun y hy e => absurd e (S.free y hy)), no_clo _ S.free]
  refine thn (hi.run pins s σ H _ I h) fun xv s1 hx => thn hx fun itv s2 ⟨it, fp, tn, J, H2, e, I2, T, st2, f2, TG, n, W, w0, turn⟩ => ⟨I2.nolimit, ?_⟩
  subst e
  obtain ⟨ps, hP, ht⟩ := TG
  have hPs : s2.heap.get? P = some { cls := .none, data := .fields ps } := I2.hok P _ hP
  have cd : PySem.W.CodeHd s2.heap c P := TB.code.keeps I2.bk
  have fpP : ∀ b ∈ fp, b ≠ P := fun b hb z => by
    have q := (f2 b hb).1
    rw [z, hP] at q
    cases q
  have cont : ∀ (code : Value) (h3 : Heap) (tk : Nat) (ps' : Array Value), Heap.ExtBut P s2.heap h3 → s2.heap.objs.size ≤ h3.objs.size → h3.get? P = some { cls := .none, data := .fields ps' } → (∃ more, ps' = ps ++ more) → TriplesOk ps'.toList →
      wpAny (model X.prog X.w) X.A (builtinsFor X.env.globals X.env.builtins) (fun bi s₄ => ∀ h', h'.Ns s₄.heap.objs.size (fun y => if y = ".0" then some (.ref it) else none) →
        Heap.SameBut s₄.heap.objs.size (s₄.heap.push { cls := .type "frame", data := .dict #[] }) h' → wpAny (model X.prog X.w) X.A (spliced (backTo pos (starEach [] X.env))) (fun us s' => wpAny (model X.prog X.w) X.A (call (.builtin "all") (.ref h'.objs.size :: us)) (EP X pins σ Q) X.xe s') X.xe
          { s₄ with gens := s₄.gens.push (.fresh (.compStart (.GeneratorExp elt [⟨.Name x px, iter, [], 0⟩] scope gp) 0 (.ref it) .none (genEnv scope [] s₄.heap.objs.size code bi X.env))), toks := s₄.toks + 1 + 1 + 1,
                    heap := h'.push { cls := .type "generator", data := .fields #[.int s₄.gens.size 0, .str "<genexpr>" (s₄.toks + 1), .str (X.env.qual ++ "<genexpr>") (s₄.toks + 1 + 1)] } }) X.xe { s2 with heap := h3, toks := tk } := by
    intro code h3 tk ps' hx hsz hP3 hmore ht3
    obtain ⟨bm, ob, e1, e2, e3, e4, e5, e6, e7, e8⟩ := TB.bm
    have keep3 : ∀ b u, b ≠ P → s2.heap.get? b = some u → h3.get? b = some u := fun b u hb e => hx b u hb e
    refine wpAny_builtinsFor (m := X.mg) (by rw [I2.ok.glob]; exact (I2.mod.glob.keeps I2.bk).extBut hx TB.gP) e1 e2 (keep3 _ _ e4 (I2.bk _ _ e5)) e6 e7 e8 ?_
    obtain ⟨more, em⟩ := hmore
    have I4 := GxR.inv_tab (more := more) (h' := h3) (g' := s2.gens) (d' := s2.drawn) (t' := tk) I2 hP (fun b u hb e => keep3 b u hb e) (by rw [← em]; exact hP3) I2.bare
    generalize hs4 : ({ s2 with heap := h3, toks := tk } : Shared) = s4 at I4 ⊢
    have h4 : s4.heap = h3 := by rw [← hs4]
    have tabbed : GxR.Tabbed P H2 (upd H2 P (.tbl (ps ++ more))) := ⟨⟨_, upd_same, by rw [← em]; exact ht3⟩, fun b hb => upd_ne hb⟩
    generalize upd H2 P (.tbl (ps ++ more)) = H4 at I4 tabbed
    have lt4 : ∀ b ∈ fp, b < s4.heap.objs.size := fun b hb => by
      obtain ⟨o, e, _⟩ := T.obj _ _ st2 b hb
      have z := Heap.lt_size e
      rw [h4]
      exact Nat.lt_of_lt_of_le z hsz
    have f4 : ∀ b ∈ fp, FpOk X pins H4 b ∧ b < s4.heap.objs.size := fun b hb => ⟨⟨(tabbed.2 b (fpP b hb)).trans (f2 b hb).1, (f2 b hb).2⟩, lt4 b hb⟩
    intro h' hn' hs'
    have sz' : h'.objs.size = s4.heap.objs.size + 1 := by rw [hs'.1, Heap.size_push]
    have kp : ∀ b o, s4.heap.get? b = some o → h'.get? b = some o := fun b o e => hs'.extBut b o (Nat.ne_of_lt (Heap.lt_size e)) (Heap.get?_push_of_some _ e)
    generalize hG : ({ cls := .type "generator", data := .fields #[.int s4.gens.size 0, .str "<genexpr>" (s4.toks + 1), .str (X.env.qual ++ "<genexpr>") (s4.toks + 1 + 1)] } : Obj) = G
    have IG := gen_inv (elt := elt) (cs := [⟨.Name x px, iter, [], 0⟩]) (sc := scope) (gp := gp) (it := it) (code := code) (G := G) (g' := s4.gens.push (.fresh (.compStart (.GeneratorExp elt [⟨.Name x px, iter, [], 0⟩] scope gp) 0 (.ref it) .none (gEnv X scope s4.heap.objs.size code)))) (tk := s4.toks + 1 + 1 + 1)
      I4 S hr.hd f4 hn' sz' kp (I4.bare.push rfl) (fun v z => by rw [← hG] at z; cases z) (by rw [← hG] <;> rfl)
    have st5 : tn 0 (h'.push G) := T.keep _ _ _ st2 fun b hb o e => Heap.get?_push_of_some _ (kp b o (by rw [h4]; exact keep3 b o (fpP b hb) e))
    refine Calls.spliced_nil ?_
    have isG : ∀ hp : Heap, hp.get? h'.objs.size = some G → hp.IsGen h'.objs.size s4.gens.size := fun hp e => ⟨G, _, _, e, by rw [← hG], by rw [← hG], by rw [← hG]⟩
    have hpn : ∀ b ∈ fp, ∀ p ∈ [(h'.objs.size, G)], p.1 ≠ b := fun b hb p hp z => by
      obtain rfl := List.mem_singleton.mp hp
      have q : b < s4.heap.objs.size := lt4 b hb
      have z2 : h'.objs.size = b := z
      rw [← z2, sz'] at q
      exact Nat.lt_irrefl _ (Nat.lt_of_succ_lt q)
    have loop := gen_seg (elt := elt) (iter := iter) (px := px) (gp := gp) (sc := scope) (Q := Q) (tn := tn) (n := n) rfl S.co T (pg_name (X := gCx X (.GeneratorExp elt [⟨.Name x px, iter, [], 0⟩] scope gp) it x s4 H4 (gEnv X scope s4.heap.objs.size code) fp) (List.nodup_cons.mpr ⟨List.not_mem_nil, List.nodup_nil⟩) rfl (.inl S.loc) (.inr S.loc))
      (hel it s4.heap.objs.size s4 H4 code fp) turn hpn
    refine call_function_tree (F.kind_all) (F.plain_all) (F.entry_all) (F.args_all1 _) ?_
    unfold Builtin.«all»
    refine wpAny_bind (m := oneArg "all" _) (wpAny_pure ?_)
    refine wpAny_bind (wpAny_pyIter_gen (isG _ (IG.pin (h'.objs.size, G) (List.mem_singleton.mpr rfl)).1) ?_)
    refine wpAny_pure ⟨plainId_quiet (F.plain_all_loop) _, all_run (pn := [(h'.objs.size, G)]) (tn := tn) (fp := fp) (W := W) (Q := Q) (List.mem_singleton.mpr rfl) isG hr.hd (by omega) (fun b s' hf => ?_) n _ ⟨0, _, ⟨H4, IG, st5, fun b hb => (f4 b hb).1.1, w0 H4 tabbed⟩, Array.getElem?_push_size .., fun s' hst => ⟨rfl, gen_den T (fun s s₀ q => loop n 0 s s₀ (Nat.sub_zero n) q) s' s' hst⟩⟩⟩
    obtain ⟨H', IY, q⟩ := hf
    have J := I4.call' (ch := fp) IY.os IY.base IY.hok IY.bare fun b hb => ⟨(f4 b hb).1.2.2.2.1, (f4 b hb).1.2.1, (f4 b hb).1.2.2.2.2.1, (f4 b hb).1.2.2.2.2.2⟩
    exact ⟨.bl b, H', J, rfl, q⟩
  cases hf : codeAmong gp ps.toList with
  | none =>
    refine wpAny_genexprCodeX hcode (cd.code hPs ht) (cd.tab hPs) hf fun c' h' tk hx hge hlt hco' _ htab' _ => ?_
    obtain ⟨o1, vs, f1, tf, fl, tg, inF, tx, tt, op, _, _, _, _, _, _, _, _, _, htr, _⟩ := hco'
    exact cont _ h' tk _ hx (Nat.le_trans hge (Nat.le_of_lt hlt)) htab'.2 ⟨_, rfl⟩ htr
  | some cv =>
    refine wpAny_genexprCode_hit hcode (cd.code hPs ht) hf ?_
    exact cont cv s2.heap s2.toks ps (Heap.ExtBut.refl _ _) (Nat.le_refl _) hPs ⟨#[], by simp⟩ ht
  in #guard_msgs (pass all) in example : True := trivial
end KR
/-! ### defs whose code has a table (a generator expression stands in them): what is kept around their calls, and the law's end with such tables -/
namespace KR
open PySem PySem.Spec PyProof.Rows L2
/-- what was tracked is as it was; tables may have grown -/
structure Sm (H H' : Hp) : Prop where
  keep : ∀ b o, H b = some o → (∀ q, o ≠ .tbl q) → H' b = some o
  tab : ∀ b, GxR.TabG H b → GxR.TabG H' b
set_option Elab.async true in
theorem Sm.trans {H H1 H2 : Hp} (a : Sm H H1) (b : Sm H1 H2) : Sm H H2 := ⟨fun c o h n => b.keep c o (a.keep c o h n) n, fun c h => b.tab c (a.tab c h)⟩
  in #guard_msgs (pass all) in example : True := trivial
theorem Sm.of {H H1 : Hp} (a : Same H H1) : Sm H H1 := ⟨fun c o h _ => a c o h, fun c ⟨q, e, t⟩ => ⟨q, a _ _ e, t⟩⟩
set_option Elab.async true in
theorem Sm.tabbed {H H1 : Hp} {P : Addr} (a : GxR.Tabbed P H H1) (h : GxR.TabG H P) : Sm H H1 := by
  obtain ⟨q, e, _⟩ := h
  refine ⟨fun c o h n => ?_, fun c ⟨q2, e2, t2⟩ => ?_⟩
  · have ne : c ≠ P := fun z => by
      rw [z, e] at h
      exact n q (Option.some.inj h).symm
    rw [a.2 c ne]
    exact h
  · by_cases z : c = P
    · rw [z]
      exact a.1
    · exact ⟨q2, (a.2 c z).trans e2, t2⟩
  in #guard_msgs (pass all) in example : True := trivial
set_option Elab.async true in
theorem Sm.tup {K : PySem.W.Frag} {H H' : Hp} {a : Addr} {xs : List V} (e : Sm H H') (h : SqT K H a xs) : SqT K H' a xs := by
  rcases h with (h | ⟨o, h⟩) | h
  · exact .inl (.inl (e.keep _ _ h nofun))
  · exact .inl (.inr ⟨o, e.keep _ _ h nofun⟩)
  · exact .inr h
  in #guard_msgs (pass all) in example : True := trivial
set_option Elab.async true in
theorem Sm.seq {K : PySem.W.Frag} {H H' : Hp} {a : Addr} {xs : List V} (e : Sm H H') (h : SqL K H a xs) : SqL K H' a xs := by
  rcases h with (h | ⟨o, h⟩) | h
  · exact .inl (.inl (e.keep _ _ h nofun))
  · exact .inl (.inr ⟨o, e.keep _ _ h nofun⟩)
  · exact .inr h
  in #guard_msgs (pass all) in example : True := trivial
/-- .. but the box p -/
structure Fs (p : Addr) (H H' : Hp) : Prop where
  keep : ∀ b o, b ≠ p → H b = some o → (∀ q, o ≠ .tbl q) → H' b = some o
  tab : ∀ b, b ≠ p → GxR.TabG H b → GxR.TabG H' b
set_option Elab.async true in
theorem Fs.trans {p : Addr} {H H1 H2 : Hp} (a : Fs p H H1) (b : Fs p H1 H2) : Fs p H H2 := ⟨fun c o e h n => b.keep c o e (a.keep c o e h n) n, fun c e h => b.tab c e (a.tab c e h)⟩
  in #guard_msgs (pass all) in example : True := trivial
set_option Elab.async true in
theorem Fs.of {p : Addr} {H H1 : Hp} (a : Fr p H H1) : Fs p H H1 := ⟨fun c o e h _ => a c o e h, fun c e ⟨q, g, t⟩ => ⟨q, a _ _ e g, t⟩⟩
  in #guard_msgs (pass all) in example : True := trivial
set_option Elab.async true in
theorem Fs.sm {p : Addr} {H H1 : Hp} (a : Sm H H1) : Fs p H H1 := ⟨fun c o _ h n => a.keep c o h n, fun c _ h => a.tab c h⟩
  in #guard_msgs (pass all) in example : True := trivial
/-- so many tables are there -/
def Tbs (Ps : List Addr) (H : Hp) : Prop := ∀ P ∈ Ps, GxR.TabG H P
theorem Tbs.sm {Ps : List Addr} {H H' : Hp} (h : Tbs Ps H) (s : Sm H H') : Tbs Ps H' := fun P hP => s.tab P (h P hP)
set_option Elab.async true in
theorem box_lst {H : Hp} {p : Addr} {n : Nat} (h : BoxAt H p n) : ∃ xs, H p = some (.lst xs) := by
  obtain ⟨a, b, c, h1, _⟩ := h
  exact ⟨_, h1⟩
  in #guard_msgs (pass all) in example : True := trivial
theorem Tbs.same {Ps : List Addr} {H H' : Hp} (h : Tbs Ps H) (s : Same H H') : Tbs Ps H' := h.sm (.of s)
/-- a def of the text whose code object is known -/
structure FunC (K : PySem.W.Frag) (x qual : Str) (st : Stmt) (f : Addr) (fd : FuncData) (c : Addr) : Prop where
  ex : ∃ (oc : Value) (od : Option Addr) (kV doc pm : Value) (an : Option Addr) (ct : Value) (osl : Array (Option Value)),
    fd = PySem.W.fnOf x qual (defArgs st) (defBody st) (defScope st) .none kV doc pm an (.ref c) ct ∧ K.lookup f = some ⟨oc, od, .func fd, osl⟩ ∧ PySem.W.codeIn K (.ref c) qual = true
set_option Elab.async true in
theorem funC_mk {K : PySem.W.Frag} {x qual : Str} {st : Stmt} {f c : Addr} {oc : Value} {od an : Option Addr} {osl : Array (Option Value)} {kV doc pm ct : Value} (l : K.lookup f = some ⟨oc, od, .func (PySem.W.fnOf x qual (defArgs st) (defBody st) (defScope st) .none kV doc pm an (.ref c) ct), osl⟩)
    (h : PySem.W.codeIn K (.ref c) qual = true) : FunC K x qual st f (PySem.W.fnOf x qual (defArgs st) (defBody st) (defScope st) .none kV doc pm an (.ref c) ct) c := ⟨⟨oc, od, kV, doc, pm, an, ct, osl, rfl, l, h⟩⟩
  in #guard_msgs (pass all) in example : True := trivial
section
variable {P : Program} {w : World} {K : PySem.W.Frag} {mg : Str → Option Value} {base : Heap}
set_option Elab.async true in
theorem FunC.ok {x qual : Str} {st : Stmt} {f c : Addr} {fd : FuncData} {N ps : List Str} {k : Nat} {sp : Sp} (F : FunC K x qual st f fd c) (S : FnScope N ps (defScope st)) (len : ∀ vs H Q E, sp vs H Q E → vs.length = ps.length)
    (body : ∀ (cdv : Value) (A : Around) (outer : List Env) (s : Shared) (H : Hp) (vs : List V) (Q : VK) (E : XK), cdv = .ref c → Room k (A.deeper (envOfC qual (defScope st) s.heap.objs.size f cdv)) → sp vs H Q E →
      ∃ t, PSs (cxOf CX0 P w K mg base N qual (defScope st) f cdv A outer s H E).nox (defBody st) t ∧ t { nx := fun _ H' => Q .non H', rt := Q } (start N vs) H) : FnOk P w K mg base CX0 (k + 1) f fd ps sp := by
  obtain ⟨_, _, _, _, _, _, _, _, rfl, lk, hcd⟩ := F.ex
  exact fn_of lk hcd S len fun A outer s H vs Q E hr hsp => (body (.ref c) A outer s H vs Q E rfl hr hsp).elim fun t z => ⟨t, z.1.nox, z.2⟩
  in #guard_msgs (pass all) in example : True := trivial
end
section
variable {P : Program} {w : World} {K : PySem.W.Frag} {mg mb : Str → Option Value} {k : Nat} {fa a : Addr} {fd : FuncData} {x : Str} {sp : Sp} {s₁ : Shared} {vs : List Value} {ns : List Int}
/-- what is tracked when the law is called: the script and the tables -/
def scrT (K : PySem.W.Frag) (a : Addr) (ob : Obj) (ns : List Int) (Ps : List Addr) : Hp := fun b => if b ∈ Ps then some (.tbl #[]) else scr K a ob ns b
set_option Elab.async true in
theorem scrT_some {ob : Obj} {Ps : List Addr} {b : Addr} {u : HO} (h : scrT K a ob ns Ps b = some u) : (b ∈ Ps ∧ u = .tbl #[]) ∨ (b ∉ Ps ∧ b = a ∧ K.lookup a = none ∧ u = .frz ob (.lst (ns.map V.int))) := by
  unfold scrT at h
  split at h
  · rename_i c
    exact .inl ⟨c, (Option.some.inj h).symm⟩
  · rename_i c
    exact .inr ⟨c, scr_some h⟩
  in #guard_msgs (pass all) in example : True := trivial
abbrev eob : Obj := { cls := .none, data := .fields #[] }
set_option Elab.async true in
theorem call_lawT {cs : List (Addr × Addr)} (inK : K.In s₁.heap) (gl : s₁.heap.Ns mainGlobals mg) (bl : s₁.heap.Ns builtinsNs mb) (boot : ∀ x : Str, x ≠ "__name__" → mb x = bootBuiltins x) (lim : s₁.heap.NoLimit) (quiet : s₁.gens = #[])
    (empty : ∀ p ∈ cs, s₁.heap.get? p.2 = some eob) (noK : ∀ p ∈ cs, K.lookup p.2 = none) (head : ∀ p ∈ cs, PySem.W.CodeHd s₁.heap p.1 p.2)
    (bmain : ∃ (bm : Addr) (ob : Obj), mg "__builtins__" = some (.ref bm) ∧ bm ≠ builtinsNs ∧ s₁.heap.get? bm = some ob ∧ ob.cls = .type "module" ∧ ob.dict = some builtinsNs ∧ ob.data = .plain)
    (there : s₁.heap.get? a = some { cls := .type "list", data := .seq vs.toArray }) (areInts : IntsAre vs ns) (len : ns.length ≤ sizeLine) (room : Room k callerA)
    (F : ∀ base : Heap, K.In base → base.Ns mainGlobals mg → (∀ p ∈ cs, GxR.TabB base mg p.1 p.2) → FnG P w K mg base k fa fd [x] sp) (binds : ∀ (s : Shared) (u : Value), BindsTo s fd ⟨[u], []⟩ [(x, u)])
    (asked : ∀ H : Hp, Tbs (cs.map (·.2)) H → SqL K H a (ns.map V.int) → sp [.ref a] H (fun v _ => v = .bl true) fun _ _ _ => False) :
    codeAny (model P w) callerA (.call (.ref fa) ⟨[.ref a], []⟩) (fun r s' => r = .ok (.ret (.bool true)) ∧ OldK s₁.heap s'.heap ∧ s'.os = s₁.os ∧ AllBare s'.gens) s₁ := by
  let ob : Obj := { cls := .type "list", data := .seq vs.toArray }
  let Ps := cs.map (·.2)
  let H := scrT K a ob ns Ps
  have at_ : ∀ {b u}, H b = some u → (b ∈ Ps ∧ u = .tbl #[]) ∨ (b ∉ Ps ∧ b = a ∧ K.lookup a = none ∧ u = .frz ob (.lst (ns.map V.int))) := scrT_some
  have isT : ∀ b ∈ Ps, s₁.heap.get? b = some eob := fun b hb => by
    obtain ⟨p, hp, e⟩ := List.mem_map.mp hb
    rw [← e]
    exact empty p hp
  have aT : a ∉ Ps := fun z => by
    have q := Option.some.inj ((isT a z).symm.trans there)
    have q2 : Data.fields #[] = Data.seq vs.toArray _ := congrArg Obj.data q
    cases q2
  have no : ∀ b o, s₁.heap.get? b = some o → (∀ q n, o.data ≠ .seq q n) → o.data ≠ .fields #[] → H b = none := fun b o e d1 d2 => by
    cases c : H b with
    | none => rfl
    | some u =>
      rcases at_ c with ⟨hb, _⟩ | ⟨_, rfl, _⟩
      · have q := Option.some.inj (e.symm.trans (isT b hb))
        exact absurd (by rw [q]) d2
      · have q := Option.some.inj (e.symm.trans there)
        exact absurd (by rw [q]) (d1 vs.toArray _)
  have keepNs : ∀ {b : Addr} {m : Str → Option Value}, s₁.heap.Ns b m → (hidT s₁.heap H).Ns b m := fun {b m} ⟨o, es, ep, e, d, r⟩ =>
    ⟨o, es, ep, hidT_get e (no b o e (fun q n z => by rw [d] at z; cases z) fun z => by rw [d] at z; cases z), d, r⟩
  have keepK : K.In (hidT s₁.heap H) := fun b o e => hidT_get (inK b o e) (by
    cases c : H b with
    | none => rfl
    | some u =>
      rcases at_ c with ⟨hb, _⟩ | ⟨_, rfl, n, _⟩
      · obtain ⟨p, hp, e2⟩ := List.mem_map.mp hb
        rw [← e2, noK p hp] at e
        cases e
      · rw [n] at e
        cases e)
  have rel := vals_ints areInts
  have holds : HOk P w H s₁.heap := fun b u c => by
    rcases at_ c with ⟨hb, rfl⟩ | ⟨_, rfl, _, rfl⟩
    · exact isT b hb
    · exact ⟨there, by rw [List.length_map]; exact len, vs, _, rel, there⟩
  have tbs : Tbs Ps H := fun b hb => ⟨#[], if_pos hb, by first | trivial | simp [TriplesOk]⟩
  have script : SqL K H a (ns.map V.int) := by
    cases c : K.lookup a with
    | none => exact Or.inl (Or.inr ⟨ob, (if_neg aT).trans (if_pos ⟨rfl, c⟩)⟩)
    | some o =>
      have e := Option.some.inj ((inK a o c).symm.trans there)
      subst e
      exact Or.inr ⟨_, vs.toArray, _, c, rfl, rfl, rfl, by rw [List.size_toArray, areInts.length]; exact len, by simpa using rel⟩
  have modul : Mod K mg (hidT s₁.heap H) := ⟨keepK, keepNs gl, ⟨mb, keepNs bl, boot⟩, lim.elim fun mc z => ⟨mc, keepNs z.1, z.2⟩⟩
  have tabB : ∀ p ∈ cs, GxR.TabB (hidT s₁.heap H) mg p.1 p.2 := fun p hp => by
    refine ⟨?_, ?_, fun z => ?_⟩
    · obtain ⟨o, us, file, tf, flags, tg, inF, text, tt, e1, r0, r1, r2, rest⟩ := head p hp
      refine ⟨o, us, file, tf, flags, tg, inF, text, tt, hidT_get e1 (no _ _ e1 (fun q n z => ?_) fun z => ?_), r0, r1, r2, rest⟩
      · rw [r1] at z
        cases z
      · rw [r1] at z
        cases z
        simp at r2
    · obtain ⟨bm, o, b1, b2, b3, b4, b5, b6⟩ := bmain
      refine ⟨bm, o, b1, b2, fun q => ?_, fun q => ?_, hidT_get b3 (no _ _ b3 (fun q n z => ?_) fun z => ?_), b4, b5, b6⟩
      · obtain ⟨o2, es, ep, e, d, _⟩ := gl
        rw [q, e] at b3
        cases b3
        rw [d] at b6
        cases b6
      · rw [q, empty p hp] at b3
        cases b3
        cases b6
      · rw [b6] at z
        cases z
      · rw [b6] at z
        cases z
    · obtain ⟨o2, es, ep, e, d, _⟩ := gl
      rw [z, empty p hp] at e
      cases e
      cases d
  have start0 : Env0 P w K mg (hidT s₁.heap H) callerA [] s₁ H := ⟨rfl, modul, fun b o e => of_hidT e, Nat.le_of_eq (hidT_size _ _), trivial, fun b hb => (List.not_mem_nil hb).elim, holds, .of_eq quiet⟩
  refine codeAny_mono ((F _ keepK (keepNs gl) tabB).does callerA [] s₁ H _ [.ref a] [.ref a] _ _ room rfl start0 (binds s₁ (.ref a)) (.cons rfl .nil) (asked H tbs script)) ?_
  intro r s' post
  match r, post with
  | .error e, post => exact False.elim post
  | .ok .next, post => exact post.elim
  | .ok .brk, post => exact post.elim
  | .ok .cont, post => exact post.elim
  | .ok (.ret u), ⟨v, H', os, bare, un, held, rv, e⟩ =>
    cases (show v = V.bl true from e)
    cases (show u = Value.bool true from rv)
    have key : ∀ b o, b ∉ Ps → s₁.heap.get? b = some o → s'.heap.get? b = some o := fun b o nb g => by
      cases c : H b with
      | none => exact un.keep b o g c (fun z => (List.not_mem_nil z).elim) (fun z => (List.not_mem_nil z).elim)
      | some u =>
        rcases at_ c with ⟨hb, _⟩ | ⟨_, rfl, _, rfl⟩
        · exact absurd hb nb
        · rw [Option.some.inj (g.symm.trans there)]
          exact (held b _ (un.frzs b ob _ c)).1
    have grown : ∀ p ∈ cs, ∃ more : Array Value, s'.heap.get? p.2 = some { cls := .none, data := .fields more } := fun p hp =>
      (un.tbls p.2 #[] (if_pos (List.mem_map.mpr ⟨p, hp, rfl⟩))).elim fun more z => ⟨_, held p.2 _ z⟩
    refine ⟨rfl, ⟨fun b o g => ?_, fun b o g => ?_⟩, os, bare⟩
    · by_cases hb : b ∈ Ps
      · obtain ⟨p, hp, e2⟩ := List.mem_map.mp hb
        obtain ⟨more, hm⟩ := grown p hp
        subst e2
        cases Option.some.inj (g.symm.trans (empty p hp))
        exact .inr (.inl ⟨((head p hp).tab (empty p hp)).isCodeTable, rfl, #[], more, rfl, by rw [Array.empty_append]; exact hm⟩)
      · exact .inl (key b o hb g)
    · by_cases hb : b ∈ Ps
      · obtain ⟨p, hp, e2⟩ := List.mem_map.mp hb
        subst e2
        exact (grown p hp).elim fun _ z => ⟨_, z⟩
      · exact ⟨o, key b o hb g⟩
  in #guard_msgs (pass all) in example : True := trivial
end
set_option Elab.async true in
/-- the goal that is left of a law: xs, the defs in which a generator expression stands -/
theorem walk_ofT {l : PySem.W.OpenLaw} {n k : Nat} {q : Program} {loose : List Str} {XP : (Str → Option Value) → Heap → Prop} {YP : World → Heap → Prop} {d : DefRec} {K : Params → PySem.W.Frag} {sp : World → List Addr → Sp} {x : Str} (xs : List Str)
    (most : l.most = some n) (n9 : n ≤ sizeLine) (nodf : d.params.defaults = []) (room : Room k callerA) (inK : ∀ (w : World) (h : Heap), YP w h → (K w.params).In h) (recs : ∀ y ∈ xs, ((recsOf q).any fun e => e.name == y) = true)
    (F : ∀ (w : World) (mg : Str → Option Value) (fa : Addr) (h : Heap), (K w.params).In h → h.Ns mainGlobals mg → mg d.name = some (.ref fa) →
      ∃ (fd : FuncData) (cs : List (Addr × Addr)), (∀ p ∈ cs, ∃ y ∈ xs, PySem.W.tabIn (K w.params) y = some p) ∧ (∀ p ∈ cs, (K w.params).lookup p.2 = none) ∧ (∀ (s : Shared) (u : Value), BindsTo s fd ⟨[u], []⟩ [(x, u)]) ∧
        ∀ base : Heap, (K w.params).In base → base.Ns mainGlobals mg → (∀ p ∈ cs, GxR.TabB base mg p.1 p.2) → FnG l.prog w (K w.params) mg base k fa fd [x] (sp w (cs.map (·.2))))
    (asked : ∀ (w : World) (Ps : List Addr) (H : Hp) (a : Addr) (ns : List Int), ns.length ≤ n → Tbs Ps H → SqL (K w.params) H a (ns.map V.int) → sp w Ps [.ref a] H (fun v _ => v = .bl true) fun _ _ _ => False) :
    PySem.W.WalkO q loose XP YP l.row.toRowW d [] (fun f vs => PySem.call f vs) :=
  Att.attach_call most nodf fun w s₀ s₁ mg mb fa o pm cd doc a vs ns G Y ho hd hcd hmg hobj hints hlen hg => by
    obtain ⟨fd, cs, ht, hn, b, f⟩ := F w mg fa _ (inK w _ Y) G.T.g hmg
    have tab : ∀ p ∈ cs, PySem.W.CodeHd s₁.heap p.1 p.2 ∧ s₁.heap.get? p.2 = some eob := fun p hp => by
      obtain ⟨y, hy, e⟩ := ht p hp
      obtain ⟨r, hr⟩ : ∃ r, (recsOf q).find? (fun e => e.name == y) = some r := Option.isSome_iff_exists.mp (by
        rw [List.find?_isSome]
        exact List.any_eq_true.mp (recs y hy))
      exact PySem.W.tab_of G.T (inK w _ Y) hr e
    exact call_lawT (inK w _ Y) G.T.g G.T.b G.T.builtins G.T.nolimit hg (fun p hp => (tab p hp).2) hn (fun p hp => (tab p hp).1) G.T.bmain hobj hints (Nat.le_trans hlen n9) room f b fun H tbs sc => asked w _ H a ns hlen tbs sc
  in #guard_msgs (pass all) in example : True := trivial
/-- tuple(x) of a list or a tuple -/
def rTupI (K : PySem.W.Frag) : List V → Hp → VK → Prop := fun xs H Q => ∃ p ys, xs = [.ref p] ∧ ((SqL K H p ys ∧ ∀ l H', Same H H' → H l = none → H' l = some (.tup ys) → Q (.ref l) H') ∨ (SqT K H p ys ∧ Q (.ref p) H))
set_option Elab.async true in
theorem tupI {X : Cx} {K : PySem.W.Frag} (h : X.K = K) : CallR X (.type "tuple") (rTupI K) := fun pins s σ H xs us Q I r ⟨p, ys, e, q⟩ =>
  call_tuple_of pins s σ H xs us Q I r ⟨p, ys, e, h ▸ q.imp (fun z => ⟨z.1, fun l hl => z.2 l _ (same_new hl) hl upd_same⟩) id⟩
  in #guard_msgs (pass all) in example : True := trivial
set_option Elab.async true in
theorem tabIn_of {K : PySem.W.Frag} {x : Str} {f c P : Addr} {oc e : Value} {od dd : Option Addr} {fd : FuncData} {osl sl : Array (Option Value)} {vs : Array Value} (a : PySem.W.nsIn K mainGlobals x = some (some (.ref f))) (l : K.lookup f = some ⟨oc, od, .func fd, osl⟩)
    (hc : fd.code = .ref c) (q : K.lookup c = some ⟨e, dd, .fields vs, sl⟩) (p : vs[11]? = some (.ref P)) : PySem.W.tabIn K x = some (c, P) := by
  unfold PySem.W.tabIn
  rw [a]
  dsimp only
  rw [l]
  dsimp only
  rw [hc]
  dsimp only
  rw [q]
  dsimp only
  rw [p]
  in #guard_msgs (pass all) in example : True := trivial
end KR
/-! ### fractions as numbers of the field -/
namespace KR
open PySem PySem.Spec PyProof.Rows L2
set_option Elab.async true in
theorem Same.tup {K : PySem.W.Frag} {H H' : Hp} {a : Addr} {xs : List V} (e : Same H H') (h : SqT K H a xs) : SqT K H' a xs :=
  h.elim (fun h => .inl (h.elim (fun h => .inl (e _ _ h)) fun ⟨o, h⟩ => .inr ⟨o, e _ _ h⟩)) fun h => .inr h
  in #guard_msgs (pass all) in example : True := trivial
set_option Elab.async true in
theorem sqT_ty {K : PySem.W.Frag} {H : Hp} {a : Addr} {xs : List V} (h : SqT K H a xs) : TyX K H (.ref a) (.type "tuple") := by
  rcases h with (h | ⟨o, h⟩) | ⟨o, its, n, h1, h2, _⟩
  · exact .base (.tup h)
  · exact .fTuple h
  · exact .kTuple h1 h2
  in #guard_msgs (pass all) in example : True := trivial
set_option Elab.async true in
theorem BoxAt.upd {H : Hp} {p D : Addr} {n : Nat} {o : HO} (h : BoxAt H p n) (ne : D ≠ p) : BoxAt (L2.upd H D o) p n := by
  obtain ⟨a, b, c, h1, h2⟩ := h
  exact ⟨a, b, c, by rw [upd_ne ne.symm]; exact h1, h2⟩
  in #guard_msgs (pass all) in example : True := trivial
def rq (t b : Int) : Rat := (t : Rat) / (b : Rat)
theorem rat_nd (q : Rat) : (q.num : Rat) / ((q.den : Int) : Rat) = q := by rw [← Rat.divInt_eq_div, Rat.num_divInt_den]
set_option Elab.async true in
theorem den_ne (q : Rat) : ((q.den : Int) : Rat) ≠ 0 := by
  intro h
  have k := q.den_pos
  have h2 : ((q.den : Int) : Rat) = ((0 : Int) : Rat) := h
  have e := Rat.intCast_inj.mp h2
  omega
  in #guard_msgs (pass all) in example : True := trivial
theorem den_ne' (q : Rat) : (q.den : Int) ≠ 0 := by
  have k := q.den_pos
  omega
set_option Elab.async true in
theorem int_ne {b : Int} (h : b ≠ 0) : (b : Rat) ≠ 0 := fun z => h (Rat.intCast_inj.mp (z.trans (by rfl : (0 : Rat) = ((0 : Int) : Rat))))
  in #guard_msgs (pass all) in example : True := trivial
set_option Elab.async true in
theorem rat_low (q : Rat) : IsLow q.num q.den := ⟨by have k := q.den_pos; omega, by rw [Int.natAbs_natCast]; exact q.reduced⟩
  in #guard_msgs (pass all) in example : True := trivial
set_option Elab.async true in
theorem rq_cross {t b : Int} (hb : b ≠ 0) : t * ((rq t b).den : Int) = (rq t b).num * b := by
  have e := rat_nd (rq t b)
  have h1 := den_ne (rq t b)
  have h2 := int_ne hb
  refine Rat.intCast_inj.mp ?_
  rw [Rat.intCast_mul, Rat.intCast_mul]
  generalize ((rq t b).den : Int) = d at *
  generalize (rq t b).num = n at *
  unfold rq at e
  grind
  in #guard_msgs (pass all) in example : True := trivial
set_option Elab.async true in
theorem rq_low {t b : Int} (hb : b ≠ 0) : low t b = ((rq t b).num, ((rq t b).den : Int)) := low_eq hb (rat_low _) (rq_cross hb)
  in #guard_msgs (pass all) in example : True := trivial
theorem cast_pos {b : Int} (h : 0 < b) : (0 : Rat) < (b : Rat) := (Rat.intCast_lt_intCast (a := 0)).mpr h
theorem cast_nn {b : Int} (h : 0 ≤ b) : (0 : Rat) ≤ (b : Rat) := (Rat.intCast_le_intCast (a := 0)).mpr h
set_option Elab.async true in
theorem le_div {a b c : Rat} (h : 0 < c) (k : a * c ≤ b) : a ≤ b / c := Rat.not_lt.mp fun z => absurd ((Rat.div_lt_iff h).mp z) (Rat.not_lt.mpr k)
  in #guard_msgs (pass all) in example : True := trivial
set_option Elab.async true in
theorem div_le {a b c : Rat} (h : 0 < c) (k : b ≤ a * c) : b / c ≤ a := Rat.not_lt.mp fun z => absurd ((Rat.lt_div_iff h).mp z) (Rat.not_lt.mpr k)
  in #guard_msgs (pass all) in example : True := trivial
set_option Elab.async true in
theorem rq_nn {t b : Int} (ht : 0 ≤ t) (hb : 0 < b) : 0 ≤ rq t b := by
  have h1 := cast_nn ht
  have h2 := cast_pos hb
  unfold rq
  generalize (t : Rat) = x at *
  generalize (b : Rat) = y at *
  exact le_div h2 (by grind)
  in #guard_msgs (pass all) in example : True := trivial
set_option Elab.async true in
theorem rq_pos {t b : Int} (ht : 0 < t) (hb : 0 < b) : 0 < rq t b := by
  have h1 := cast_pos ht
  have h2 := cast_pos hb
  unfold rq
  generalize (t : Rat) = x at *
  generalize (b : Rat) = y at *
  exact (Rat.lt_div_iff h2).mpr (by grind)
  in #guard_msgs (pass all) in example : True := trivial
set_option Elab.async true in
theorem rq_lt_one {t b : Int} (ht : t < b) (hb : 0 < b) : rq t b < 1 := by
  have h1 := Rat.intCast_lt_intCast.mpr ht
  have h2 := cast_pos hb
  unfold rq
  generalize (t : Rat) = x at *
  generalize (b : Rat) = y at *
  exact (Rat.div_lt_iff h2).mpr (by grind)
  in #guard_msgs (pass all) in example : True := trivial
set_option Elab.async true in
theorem rq_le_one {t b : Int} (ht : t ≤ b) (hb : 0 < b) : rq t b ≤ 1 := by
  have h1 := Rat.intCast_le_intCast.mpr ht
  have h2 := cast_pos hb
  unfold rq
  generalize (t : Rat) = x at *
  generalize (b : Rat) = y at *
  exact div_le h2 (by grind)
  in #guard_msgs (pass all) in example : True := trivial
set_option Elab.async true in
theorem rq_add (p q : Rat) : rq (p.num * q.den + q.num * p.den) (p.den * q.den) = p + q := by
  have e1 := rat_nd p
  have e2 := rat_nd q
  have h1 := den_ne p
  have h2 := den_ne q
  unfold rq
  rw [Rat.intCast_add, Rat.intCast_mul, Rat.intCast_mul, Rat.intCast_mul]
  generalize ((p.den : Int) : Rat) = d at *
  generalize (p.num : Rat) = n at *
  generalize ((q.den : Int) : Rat) = d2 at *
  generalize (q.num : Rat) = n2 at *
  grind
  in #guard_msgs (pass all) in example : True := trivial
set_option Elab.async true in
theorem rq_sub (p q : Rat) : rq (p.num * q.den - q.num * p.den) (p.den * q.den) = p - q := by
  have e1 := rat_nd p
  have e2 := rat_nd q
  have h1 := den_ne p
  have h2 := den_ne q
  unfold rq
  rw [Rat.intCast_sub, Rat.intCast_mul, Rat.intCast_mul, Rat.intCast_mul]
  generalize ((p.den : Int) : Rat) = d at *
  generalize (p.num : Rat) = n at *
  generalize ((q.den : Int) : Rat) = d2 at *
  generalize (q.num : Rat) = n2 at *
  grind
  in #guard_msgs (pass all) in example : True := trivial
set_option Elab.async true in
theorem rq_mul (p q : Rat) : rq (p.num * q.num) (p.den * q.den) = p * q := by
  have e1 := rat_nd p
  have e2 := rat_nd q
  have h1 := den_ne p
  have h2 := den_ne q
  unfold rq
  rw [Rat.intCast_mul, Rat.intCast_mul]
  generalize ((p.den : Int) : Rat) = d at *
  generalize (p.num : Rat) = n at *
  generalize ((q.den : Int) : Rat) = d2 at *
  generalize (q.num : Rat) = n2 at *
  grind
  in #guard_msgs (pass all) in example : True := trivial
theorem rq_self (q : Rat) : rq q.num q.den = q := rat_nd q
set_option Elab.async true in
theorem num_ne {q : Rat} (h : q ≠ 0) : q.num ≠ 0 := fun z => h (by
  have e := rat_nd q
  rw [z] at e
  rw [← e]
  grind)
  in #guard_msgs (pass all) in example : True := trivial
set_option Elab.async true in
theorem num_zero {q : Rat} : q.num = 0 ↔ q = 0 := ⟨fun z => Classical.byContradiction fun y => num_ne y z, fun z => by rw [z] <;> rfl⟩
  in #guard_msgs (pass all) in example : True := trivial
theorem num_pos {q : Rat} : 0 < q.num ↔ 0 < q := by
  have k := Rat.lt_iff 0 q
  simp at k
  exact k.symm
theorem lt_cross (p q : Rat) : (p.num * q.den < q.num * p.den) ↔ p < q := (Rat.lt_iff p q).symm
/-- top and bottom fit so many bits -/
def Sz (n : Nat) (q : Rat) : Prop := q.num.natAbs < 2 ^ n ∧ (q.den : Int).natAbs < 2 ^ n
theorem Sz.up {n m : Nat} {q : Rat} (h : Sz n q) (le : n ≤ m) : Sz m q := ⟨lt_up h.1 le, lt_up h.2 le⟩
set_option Elab.async true in
theorem sz_rq {t b : Int} {n : Nat} (hb : b ≠ 0) (h1 : t.natAbs < 2 ^ n) (h2 : b.natAbs < 2 ^ n) : Sz n (rq t b) := by
  have k := low_lt h1 h2
  rw [rq_low hb] at k
  exact k
  in #guard_msgs (pass all) in example : True := trivial
set_option Elab.async true in
theorem Sz.int {z : Int} {n : Nat} (h : z.natAbs < 2 ^ n) (h0 : 0 < n) : Sz n (z : Rat) := ⟨h, Nat.lt_of_lt_of_le (by decide : (1 : Nat) < 2 ^ 1) (Nat.pow_le_pow_right (by decide) h0)⟩
  in #guard_msgs (pass all) in example : True := trivial
/-- a fraction that is read -/
def FrQ (K : PySem.W.Frag) (H : Hp) (x : Addr) (q : Rat) : Prop := SqT K H x [.int q.num, .int (q.den : Int)]
set_option Elab.async true in
theorem FrQ.same {K : PySem.W.Frag} {H H' : Hp} {x : Addr} {q : Rat} (h : FrQ K H x q) (s : Same H H') : FrQ K H' x q := Same.tup s h
  in #guard_msgs (pass all) in example : True := trivial
set_option Elab.async true in
theorem FrQ.of {K : PySem.W.Frag} {H : Hp} {x : Addr} {q : Rat} (h : H x = some (.tup [.int q.num, .int (q.den : Int)])) : FrQ K H x q := SqT.of h
  in #guard_msgs (pass all) in example : True := trivial
set_option Elab.async true in
theorem FrQ.int {K : PySem.W.Frag} {H : Hp} {x : Addr} {z : Int} (h : H x = some (.tup [.int z, .int 1])) : FrQ K H x (z : Rat) := SqT.of h
  in #guard_msgs (pass all) in example : True := trivial
/-- a juice that is read -/
def JuQ (K : PySem.W.Frag) (H : Hp) (x : Addr) (s w : Rat) : Prop := ∃ a b, SqT K H x [.ref a, .ref b] ∧ FrQ K H a s ∧ FrQ K H b w
set_option Elab.async true in
theorem JuQ.same {K : PySem.W.Frag} {H H' : Hp} {x : Addr} {s w : Rat} (h : JuQ K H x s w) (e : Same H H') : JuQ K H' x s w := by
  obtain ⟨a, b, h1, h2, h3⟩ := h
  exact ⟨a, b, Same.tup e h1, h2.same e, h3.same e⟩
  in #guard_msgs (pass all) in example : True := trivial
set_option Elab.async true in
theorem JuQ.new {K : PySem.W.Frag} {H : Hp} {x a b : Addr} {s w : Rat} (h : H x = some (.tup [.ref a, .ref b])) (ha : FrQ K H a s) (hb : FrQ K H b w) : JuQ K H x s w := ⟨a, b, SqT.of h, ha, hb⟩
  in #guard_msgs (pass all) in example : True := trivial
/-- a new pair of two numbers' lowest terms -/
def sp_lowQ (K : PySem.W.Frag) : Sp := fun vs H Q _ => ∃ (t b : Int) (n : Nat), vs = [.int t, .int b] ∧ b ≠ 0 ∧ t.natAbs < 2 ^ n ∧ b.natAbs < 2 ^ n ∧ n ≤ 2000 ∧ ∀ p H', Same H H' → H p = none → FrQ K H' p (rq t b) → Sz n (rq t b) → Q (.ref p) H'
/-- two fractions in, one out -/
def sp_q2 (K : PySem.W.Frag) (f : Rat → Rat → Rat) (ok : Rat → Rat → Prop) : Sp := fun vs H Q _ => ∃ (x y : Addr) (p q : Rat) (m n : Nat), vs = [.ref x, .ref y] ∧ FrQ K H x p ∧ FrQ K H y q ∧ Sz m p ∧ Sz n q ∧ m + n ≤ 1900 ∧ ok p q ∧
  ∀ z H', Same H H' → H z = none → FrQ K H' z (f p q) → Sz (m + n + 1) (f p q) → Q (.ref z) H'
def sp_less (K : PySem.W.Frag) : Sp := fun vs H Q _ => ∃ (x y : Addr) (p q : Rat), vs = [.ref x, .ref y] ∧ FrQ K H x p ∧ FrQ K H y q ∧ Sz 1900 p ∧ Sz 1900 q ∧ Q (.bl (decide (p < q))) H
set_option Elab.async true in
theorem mulZ {i j : Int} {a b : Nat} (ha : i.natAbs < 2 ^ a) (hb : j.natAbs < 2 ^ b) (h : a + b ≤ 100000) : IntMulOk i j :=
  mulW (lt_up ha (by omega : a ≤ a + 1)) (lt_up hb (by omega : b ≤ b + 1)) (by omega) (by omega) (by omega)
  in #guard_msgs (pass all) in example : True := trivial
/-! data of the law's own making, tuples of the written part among them -/
inductive Dk (K : PySem.W.Frag) (H : Hp) : Nat → V → PyData → Prop
  | non (n : Nat) : Dk K H (n + 1) .non .none
  | bl (n : Nat) (b : Bool) : Dk K H (n + 1) (.bl b) (.bool b)
  | int (n : Nat) (i : Int) : Dk K H (n + 1) (.int i) (.int i)
  | str (n : Nat) (x : Str) (ok : PyData.canLay0 (.str x) = true) : Dk K H (n + 1) (.str x) (.str x)
  | lst {n : Nat} {a : Addr} {xs : List V} {ds : List PyData} : H a = some (.lst xs) → xs.length = ds.length → xs.length ≤ 100000 → (∀ (i : Nat) (x : V) (d : PyData), xs[i]? = some x → ds[i]? = some d → Dk K H n x d) → Dk K H (n + 1) (.ref a) (.list ds)
  | tup {n : Nat} {a : Addr} {xs : List V} {ds : List PyData} : SqT K H a xs → xs.length = ds.length → xs.length ≤ 100000 → (∀ (i : Nat) (x : V) (d : PyData), xs[i]? = some x → ds[i]? = some d → Dk K H n x d) → Dk K H (n + 1) (.ref a) (.tuple ds)
/-- rows of data beside their values -/
def DkAll (K : PySem.W.Frag) (H : Hp) (n : Nat) (xs : List V) (ds : List PyData) : Prop := xs.length = ds.length ∧ ∀ (i : Nat) (x : V) (d : PyData), xs[i]? = some x → ds[i]? = some d → Dk K H n x d
theorem DkAll.nil {K : PySem.W.Frag} {H : Hp} {n : Nat} : DkAll K H n [] [] := ⟨rfl, fun i x d h => by simp at h⟩
set_option Elab.async true in
theorem DkAll.cons {K : PySem.W.Frag} {H : Hp} {n : Nat} {x : V} {d : PyData} {xs : List V} {ds : List PyData} (h : Dk K H n x d) (t : DkAll K H n xs ds) : DkAll K H n (x :: xs) (d :: ds) :=
  ⟨by rw [List.length_cons, List.length_cons, t.1], fun i u v hu hv => match i, hu, hv with
    | 0, hu, hv => by cases hu; cases hv; exact h
    | i + 1, hu, hv => t.2 i u v hu hv⟩
  in #guard_msgs (pass all) in example : True := trivial
/-- the data of a fraction, of a juice -/
def dq (q : Rat) : PyData := .tuple [.int q.num, .int (q.den : Int)]
def dj (s w : Rat) : PyData := .tuple [dq s, dq w]
/-- a fraction or None -/
def OQ (K : PySem.W.Frag) (H : Hp) (v : V) : Option Rat → Prop
  | none => v = .non
  | some q => ∃ x, v = .ref x ∧ FrQ K H x q
def oq : Option Rat → PyData
  | none => .none
  | some q => dq q
/-- the strength of a juice -/
def stren (s w : Rat) : Option Rat := if s + w = 0 then none else some (s / (s + w))
set_option Elab.async true in
theorem is_zero {q : Rat} : decide (q.num = 0 ∧ (q.den : Int) = 1) = decide (q = 0) := by
  rw [decide_eq_decide]
  constructor
  · rintro ⟨h, _⟩
    exact num_zero.mp h
  · rintro rfl
    exact ⟨rfl, rfl⟩
  in #guard_msgs (pass all) in example : True := trivial
/-- boiling -/
def wat (s u : Rat) : Rat := s / u - s
def boil (s w : Rat) (f : Int) (u h : Rat) : Rat := if wat s u < w then (if w - f * h < wat s u then wat s u else w - f * h) else w
set_option Elab.async true in
theorem rq_wat (s u : Rat) (hu : u ≠ 0) : rq (s.num * ((u.den : Int) - u.num)) (s.den * u.num) = wat s u := by
  have e1 := rat_nd s
  have e2 := rat_nd u
  have h1 := den_ne s
  have h2 := den_ne u
  have h3 := int_ne (num_ne hu)
  unfold rq wat
  rw [Rat.intCast_mul, Rat.intCast_mul, Rat.intCast_sub]
  generalize ((s.den : Int) : Rat) = d at *
  generalize (s.num : Rat) = n at *
  generalize ((u.den : Int) : Rat) = d2 at *
  generalize (u.num : Rat) = n2 at *
  rw [← e1, ← e2]
  grind
  in #guard_msgs (pass all) in example : True := trivial
set_option Elab.async true in
theorem Sz.add {m n : Nat} {p q : Rat} (h : Sz m p) (k : Sz n q) : Sz (m + n + 1) (p + q) := by
  rw [← rq_add]
  exact sz_rq (Int.mul_ne_zero (den_ne' p) (den_ne' q)) (lt_up (add_lt (wide_lt h.1 k.2) (lt_up (wide_lt k.1 h.2) (by omega : n + m ≤ m + n))) (by omega)) (lt_up (wide_lt h.2 k.2) (by omega))
  in #guard_msgs (pass all) in example : True := trivial
set_option Elab.async true in
theorem Sz.sub {m n : Nat} {p q : Rat} (h : Sz m p) (k : Sz n q) : Sz (m + n + 1) (p - q) := by
  rw [← rq_sub]
  exact sz_rq (Int.mul_ne_zero (den_ne' p) (den_ne' q)) (lt_up (sub_lt (wide_lt h.1 k.2) (lt_up (wide_lt k.1 h.2) (by omega : n + m ≤ m + n))) (by omega)) (lt_up (wide_lt h.2 k.2) (by omega))
  in #guard_msgs (pass all) in example : True := trivial
set_option Elab.async true in
theorem Sz.mul {m n : Nat} {p q : Rat} (h : Sz m p) (k : Sz n q) : Sz (m + n) (p * q) := by
  rw [← rq_mul]
  exact sz_rq (Int.mul_ne_zero (den_ne' p) (den_ne' q)) (wide_lt h.1 k.1) (wide_lt h.2 k.2)
  in #guard_msgs (pass all) in example : True := trivial
set_option Elab.async true in
theorem Sz.wat {m n : Nat} {s u : Rat} (h : Sz m s) (k : Sz n u) (hu : u ≠ 0) : Sz (m + n + 1) (wat s u) := by
  rw [← rq_wat s u hu]
  exact sz_rq (Int.mul_ne_zero (den_ne' s) (num_ne hu)) (lt_up (wide_lt h.1 (sub_lt k.2 k.1)) (by omega)) (lt_up (wide_lt h.2 k.1) (by omega))
  in #guard_msgs (pass all) in example : True := trivial
set_option Elab.async true in
theorem Sz.boil {a b c n N : Nat} {s w u h : Rat} {f : Int} (zs : Sz a s) (zu : Sz n u) (hu : u ≠ 0) (zw : Sz b w) (zh : Sz c h) (hf : f.natAbs < 2 ^ 14) (h1 : a + n + 1 ≤ N) (h2 : b + (14 + c) + 1 ≤ N) : Sz N (KR.boil s w f u h) := by
  unfold KR.boil
  split
  · split
    · exact (Sz.wat zs zu hu).up h1
    · exact (Sz.sub zw (Sz.mul (Sz.int hf (by decide)) zh)).up h2
  · exact zw.up (by omega)
  in #guard_msgs (pass all) in example : True := trivial
set_option Elab.async true in
theorem FrQ.dp {K : PySem.W.Frag} {H : Hp} {x : Addr} {q : Rat} (h : FrQ K H x q) : Dp K H (.ref x) (dq q) := .tup h (.cons (.int _) (.cons (.int _) .nil))
  in #guard_msgs (pass all) in example : True := trivial
set_option Elab.async true in
theorem JuQ.dp {K : PySem.W.Frag} {H : Hp} {x : Addr} {s w : Rat} (h : JuQ K H x s w) : Dp K H (.ref x) (dj s w) := by
  obtain ⟨a, b, h1, h2, h3⟩ := h
  exact .tup h1 (.cons h2.dp (.cons h3.dp .nil))
  in #guard_msgs (pass all) in example : True := trivial
set_option Elab.async true in
theorem eqv_dq (a b : Rat) : PyData.eqv (dq a) (dq b) = decide (a = b) := by
  refine eqv_pair.trans ?_
  rw [decide_eq_decide]
  constructor
  · rintro ⟨h1, h2⟩
    exact Rat.ext h1 (by omega)
  · rintro rfl
    exact ⟨rfl, rfl⟩
  in #guard_msgs (pass all) in example : True := trivial
/-- when a juice is ready -/
def ready (s w : Rat) (f : Int) (u : Rat) : Option Rat := if s = 0 then none else if wat s u < w then (if f = 0 then none else some ((w - wat s u) / (f : Rat))) else some 0
/-- a thing is not among those of a tuple -/
def rNoTup (K : PySem.W.Frag) : R2 := fun x y H Q => ∃ d ds, Dp K H x d ∧ Dp K H y (.tuple ds) ∧ PyData.canLay0 d = true ∧ PyData.canLayAll0 ds = true ∧ PyData.depth d ≤ 60 ∧ Q (.bl (!ds.any fun z => PyData.eqv z d)) H
/-- a juice in, a juice and a share in, two juices in -/
def sp_j2 (K : PySem.W.Frag) : Sp := fun vs H Q _ => ∃ (x y : Addr) (s w s' w' : Rat) (m n : Nat), vs = [.ref x, .ref y] ∧ JuQ K H x s w ∧ JuQ K H y s' w' ∧ Sz m s ∧ Sz m w ∧ Sz n s' ∧ Sz n w' ∧ m + n ≤ 1900 ∧
  ∀ z H', Same H H' → JuQ K H' z (s + s') (w + w') → Sz (m + n + 1) (s + s') → Sz (m + n + 1) (w + w') → Q (.ref z) H'
def sp_jt (K : PySem.W.Frag) (f : Rat → Rat) : Sp := fun vs H Q _ => ∃ (x y : Addr) (s w t : Rat) (m n : Nat), vs = [.ref x, .ref y] ∧ JuQ K H x s w ∧ FrQ K H y t ∧ Sz m s ∧ Sz m w ∧ Sz n t ∧ m + n ≤ 900 ∧ n ≤ 400 ∧
  ∀ z H', Same H H' → JuQ K H' z (s * f t) (w * f t) → Sz (m + n + 10) (s * f t) → Sz (m + n + 10) (w * f t) → Q (.ref z) H'
def sp_vol (K : PySem.W.Frag) : Sp := fun vs H Q _ => ∃ (x : Addr) (s w : Rat) (m : Nat), vs = [.ref x] ∧ JuQ K H x s w ∧ Sz m s ∧ Sz m w ∧ m ≤ 900 ∧ ∀ z H', Same H H' → FrQ K H' z (s + w) → Sz (m + m + 1) (s + w) → Q (.ref z) H'
def sp_str (K : PySem.W.Frag) : Sp := fun vs H Q _ => ∃ (x : Addr) (s w : Rat) (m : Nat), vs = [.ref x] ∧ JuQ K H x s w ∧ Sz m s ∧ Sz m w ∧ m ≤ 600 ∧ ∀ v H', Same H H' → OQ K H' v (stren s w) → (∀ q, stren s w = some q → Sz (3 * m + 2) q) → Q v H'
end KR
/-! ### fractions of many bits: a common bottom, a bound -/
namespace KR
open PySem PySem.Spec PyProof.Rows L2
def sp_lowV : Sp := fun vs H Q _ => ∃ t b : Int, vs = [.int t, .int b] ∧ b ≠ 0 ∧ t.natAbs < 2 ^ 8900 ∧ b.natAbs < 2 ^ 8900 ∧ ∀ p H', Same H H' → H p = none → H' p = some (.tup [.int (low t b).1, .int (low t b).2]) → Q (.ref p) H'
def sp_lowW (K : PySem.W.Frag) : Sp := fun vs H Q _ => ∃ t b : Int, vs = [.int t, .int b] ∧ b ≠ 0 ∧ t.natAbs < 2 ^ 8900 ∧ b.natAbs < 2 ^ 8900 ∧ ∀ p H', Same H H' → H p = none → FrQ K H' p (rq t b) → Q (.ref p) H'
set_option Elab.async true in
theorem lowW {K : PySem.W.Frag} {vs : List V} {H : Hp} {Q : VK} {E : XK} (h : sp_lowW K vs H Q E) : sp_lowV vs H Q E := by
  obtain ⟨t, b, e, hb, h1, h2, q⟩ := h
  refine ⟨t, b, e, hb, h1, h2, fun p H' s hp h' => q p H' s hp ?_⟩
  rw [rq_low hb] at h'
  exact .of h'
  in #guard_msgs (pass all) in example : True := trivial
abbrev Big (q : Rat) : Prop := Sz 4400 q
def sp_w2 (K : PySem.W.Frag) (f : Rat → Rat → Rat) (ok : Rat → Rat → Prop) : Sp := fun vs H Q _ => ∃ (x y : Addr) (p q : Rat), vs = [.ref x, .ref y] ∧ FrQ K H x p ∧ FrQ K H y q ∧ Big p ∧ Big q ∧ ok p q ∧ ∀ z H', Same H H' → H z = none → FrQ K H' z (f p q) → Q (.ref z) H'
/-- so often as M tells it is a whole number -/
def Dv (M : Nat) (q : Rat) : Prop := ∃ z : Int, q * ((M : Int) : Rat) = (z : Rat)
theorem Dv.zero {M : Nat} : Dv M 0 := ⟨0, by rw [Rat.zero_mul]; rfl⟩
theorem Dv.int {M : Nat} (i : Int) : Dv M (i : Rat) := ⟨i * M, by rw [Rat.intCast_mul]⟩
set_option Elab.async true in
theorem Dv.add {M : Nat} {p q : Rat} (h : Dv M p) (k : Dv M q) : Dv M (p + q) := by
  obtain ⟨a, ea⟩ := h
  obtain ⟨b, eb⟩ := k
  exact ⟨a + b, by rw [Rat.add_mul, ea, eb, Rat.intCast_add]⟩
  in #guard_msgs (pass all) in example : True := trivial
set_option Elab.async true in
theorem Dv.neg {M : Nat} {p : Rat} (h : Dv M p) : Dv M (-p) := by
  obtain ⟨a, ea⟩ := h
  exact ⟨-a, by rw [Rat.neg_mul, ea, Rat.intCast_neg]⟩
  in #guard_msgs (pass all) in example : True := trivial
set_option Elab.async true in
theorem Dv.sub {M : Nat} {p q : Rat} (h : Dv M p) (k : Dv M q) : Dv M (p - q) := by
  rw [Rat.sub_eq_add_neg]
  exact h.add k.neg
  in #guard_msgs (pass all) in example : True := trivial
set_option Elab.async true in
theorem Dv.mul {M N : Nat} {p q : Rat} (h : Dv M p) (k : Dv N q) : Dv (M * N) (p * q) := by
  obtain ⟨a, ea⟩ := h
  obtain ⟨b, eb⟩ := k
  refine ⟨a * b, ?_⟩
  rw [Rat.intCast_mul, ← ea, ← eb, Int.natCast_mul, Rat.intCast_mul]
  generalize ((M : Int) : Rat) = m
  generalize ((N : Int) : Rat) = n
  grind
  in #guard_msgs (pass all) in example : True := trivial
set_option Elab.async true in
theorem Dv.up {M N : Nat} {q : Rat} (h : Dv M q) (d : M ∣ N) : Dv N q := by
  obtain ⟨a, ea⟩ := h
  obtain ⟨k, rfl⟩ := d
  refine ⟨a * k, ?_⟩
  rw [Rat.intCast_mul, ← ea, Int.natCast_mul, Rat.intCast_mul]
  generalize ((M : Int) : Rat) = m
  generalize ((k : Int) : Rat) = n
  grind
  in #guard_msgs (pass all) in example : True := trivial
set_option Elab.async true in
theorem Dv.rq {t b : Int} (hb : 0 < b) : Dv b.natAbs (KR.rq t b) := by
  refine ⟨t, ?_⟩
  have e : ((b.natAbs : Nat) : Int) = b := by omega
  rw [e]
  have h := int_ne (show b ≠ 0 by omega)
  unfold KR.rq
  generalize (t : Rat) = x
  generalize (b : Rat) = y at *
  grind
  in #guard_msgs (pass all) in example : True := trivial
set_option Elab.async true in
theorem Dv.den (q : Rat) : Dv q.den q := by
  have k := Dv.rq (t := q.num) (b := (q.den : Int)) (by have := q.den_pos; omega)
  rw [rq_self, Int.natAbs_natCast] at k
  exact k
  in #guard_msgs (pass all) in example : True := trivial
set_option Elab.async true in
theorem rat_le_abs {z : Int} {M B : Nat} {q : Rat} (e : q * ((M : Int) : Rat) = (z : Rat)) (lo : -((B : Int) : Rat) ≤ q) (hi : q ≤ ((B : Int) : Rat)) : z.natAbs ≤ B * M := by
  have m0 := cast_nn (show (0 : Int) ≤ (M : Int) by omega)
  have k1 := Rat.mul_le_mul_of_nonneg_right hi m0
  have k2 := Rat.mul_le_mul_of_nonneg_right lo m0
  rw [e, ← Rat.intCast_mul] at k1
  rw [e, ← Rat.intCast_neg, ← Rat.intCast_mul] at k2
  have h1 := Rat.intCast_le_intCast.mp k1
  have h2 := Rat.intCast_le_intCast.mp k2
  have h3 : -(B : Int) * (M : Int) = -((B : Int) * (M : Int)) := Int.neg_mul _ _
  rw [h3] at h2
  have h4 : ((B * M : Nat) : Int) = (B : Int) * (M : Int) := Int.natCast_mul _ _
  omega
  in #guard_msgs (pass all) in example : True := trivial
set_option Elab.async true in
/-- what has a common bottom and a bound is not long -/
theorem Dv.sz {M B n : Nat} {q : Rat} (h : Dv M q) (hM : 0 < M) (lo : -((B : Int) : Rat) ≤ q) (hi : q ≤ ((B : Int) : Rat)) (b1 : 1 ≤ B) (fit : B * M < 2 ^ n) : Sz n q := by
  obtain ⟨z, e⟩ := h
  have k := rat_le_abs e lo hi
  have m1 : M ≤ B * M := Nat.le_mul_of_pos_left M b1
  have eq : q = KR.rq z (M : Int) := by
    have h := int_ne (show (M : Int) ≠ 0 by omega)
    unfold KR.rq
    rw [← e]
    generalize ((M : Int) : Rat) = y at *
    grind
  rw [eq]
  exact sz_rq (by omega) (Nat.lt_of_le_of_lt k fit) (by rw [Int.natAbs_natCast]; exact Nat.lt_of_le_of_lt m1 fit)
  in #guard_msgs (pass all) in example : True := trivial
/-- rows of fractions -/
abbrev Fz := Addr × Rat
def rz (l : List Fz) : List V := l.map fun z => V.ref z.1
def FL (K : PySem.W.Frag) (H : Hp) (l : List Fz) : Prop := ∀ z ∈ l, FrQ K H z.1 z.2
theorem FL.nil {K : PySem.W.Frag} {H : Hp} : FL K H [] := fun z hz => absurd hz List.not_mem_nil
/-- all together -/
def zsum : List Rat → Rat
  | [] => 0
  | q :: r => q + zsum r
set_option Elab.async true in
theorem Dv.all {M : Nat} {l : List Rat} (h : ∀ q ∈ l, Dv M q) : Dv M (zsum l) := by
  induction l with
  | nil => exact .zero
  | cons q r ih => exact (h q List.mem_cons_self).add (ih fun y hy => h y (List.mem_cons_of_mem _ hy))
  in #guard_msgs (pass all) in example : True := trivial
/-- rows of fractions that may be added one after another -/
def AddOk (l : List Rat) : Prop := ∀ i, i ≤ l.length → Big (zsum (l.take i))
/-- a part: from 0 to 1, its bottom at most 12 -/
structure Part (q : Rat) : Prop where
  lo : 0 ≤ q
  hi : q ≤ 1
  bt : q.den ≤ 12
set_option Elab.async true in
theorem den_le {t b : Int} (hb : 0 < b) : ((rq t b).den : Int) ≤ b := by
  have e := rq_low (t := t) (b := b) (by omega)
  have k : (low t b).2 = ((rq t b).den : Int) := by rw [e]
  rw [← k]
  show (b.natAbs : Int) / (Nat.gcd t.natAbs b.natAbs : Int) ≤ b
  have g : (0 : Int) < (Nat.gcd t.natAbs b.natAbs : Int) := by
    have := Nat.gcd_pos_of_pos_right t.natAbs (show 0 < b.natAbs by omega)
    omega
  have h := Int.ediv_le_self (a := (b.natAbs : Int)) (Nat.gcd t.natAbs b.natAbs : Int) (by omega)
  omega
  in #guard_msgs (pass all) in example : True := trivial
end KR
/-! ### len(set(texts)) -/
namespace KR
open PySem PySem.Spec PyProof.Rows L2
/-- each text once, as it first comes -/
def dd : List Str → List Str → List Str
  | acc, [] => acc
  | acc, x :: xs => dd (if x ∈ acc then acc else acc ++ [x]) xs
def dist (xs : List Str) : List Str := dd [] xs
set_option Elab.async true in
theorem dd_app (ys : List Str) : ∀ (xs acc : List Str), dd acc (xs ++ ys) = dd (dd acc xs) ys
  | [], _ => rfl
  | x :: xs, acc => dd_app ys xs _
  in #guard_msgs (pass all) in example : True := trivial
set_option Elab.async true in
theorem dist_snoc (xs : List Str) (x : Str) : dist (xs ++ [x]) = if x ∈ dist xs then dist xs else dist xs ++ [x] := dd_app [x] xs []
  in #guard_msgs (pass all) in example : True := trivial
set_option Elab.async true in
theorem mem_dd {y : Str} : ∀ (xs acc : List Str), y ∈ dd acc xs ↔ y ∈ acc ∨ y ∈ xs
  | [], acc => by simp [dd]
  | x :: xs, acc => by
    unfold dd
    rw [mem_dd xs, List.mem_cons]
    by_cases h : x ∈ acc
    · rw [if_pos h]
      constructor
      · rintro (k | k)
        · exact .inl k
        · exact .inr (.inr k)
      · rintro (k | rfl | k)
        · exact .inl k
        · exact .inl h
        · exact .inr k
    · rw [if_neg h, List.mem_append, List.mem_singleton, or_assoc]
  in #guard_msgs (pass all) in example : True := trivial
set_option Elab.async true in
theorem mem_dist {y : Str} {xs : List Str} : y ∈ dist xs ↔ y ∈ xs := by
  rw [show dist xs = dd [] xs from rfl, mem_dd] <;> simp
  in #guard_msgs (pass all) in example : True := trivial
set_option Elab.async true in
theorem dd_le : ∀ (xs acc : List Str), (dd acc xs).length ≤ acc.length + xs.length
  | [], acc => Nat.le_refl _
  | x :: xs, acc => by
    unfold dd
    refine Nat.le_trans (dd_le xs _) ?_
    split <;> simp <;> omega
  in #guard_msgs (pass all) in example : True := trivial
set_option Elab.async true in
theorem dist_le (xs : List Str) : (dist xs).length ≤ xs.length := by
  have h := dd_le xs []
  rw [List.length_nil, Nat.zero_add] at h
  exact h
  in #guard_msgs (pass all) in example : True := trivial
set_option Elab.async true in
theorem dd_nodup : ∀ (xs acc : List Str), acc.Nodup → (dd acc xs).Nodup
  | [], _, h => h
  | x :: xs, acc, h => by
    unfold dd
    refine dd_nodup xs _ ?_
    split
    · exact h
    · rename_i c
      rw [List.nodup_append]
      exact ⟨h, by simp, fun a ha b hb => by rw [List.mem_singleton.mp hb]; intro e; exact c (e ▸ ha)⟩
  in #guard_msgs (pass all) in example : True := trivial
theorem dist_nodup (xs : List Str) : (dist xs).Nodup := dd_nodup xs [] List.nodup_nil
set_option Elab.async true in
/-- as many as there are texts: no two are alike -/
theorem dd_full : ∀ (xs acc : List Str), (acc ++ xs).Nodup → dd acc xs = acc ++ xs
  | [], acc, _ => by rw [List.append_nil] <;> rfl
  | x :: xs, acc, h => by
    have c : x ∉ acc := fun m => by
      rw [List.nodup_append] at h
      exact h.2.2 x m x List.mem_cons_self rfl
    unfold dd
    rw [if_neg c, dd_full xs (acc ++ [x]) (by rw [List.append_assoc]; exact h), List.append_assoc] <;> rfl
  in #guard_msgs (pass all) in example : True := trivial
theorem dist_full {xs : List Str} (h : xs.Nodup) : dist xs = xs := dd_full xs [] h
set_option Elab.async true in
theorem dd_less : ∀ (xs acc : List Str), acc.Nodup → ¬ (acc ++ xs).Nodup → (dd acc xs).length < acc.length + xs.length
  | [], acc, h, k => absurd (by rw [List.append_nil]; exact h) k
  | x :: xs, acc, h, k => by
    unfold dd
    by_cases c : x ∈ acc
    · rw [if_pos c]
      have := dd_le xs acc
      rw [List.length_cons]
      omega
    · rw [if_neg c]
      have e := dd_less xs (acc ++ [x]) (by rw [List.nodup_append]; exact ⟨h, by simp, fun a ha b hb => by rw [List.mem_singleton.mp hb]; intro e; exact c (e ▸ ha)⟩) (by rw [List.append_assoc]; exact k)
      rw [List.length_append, List.length_singleton] at e
      rw [List.length_cons]
      omega
  in #guard_msgs (pass all) in example : True := trivial
set_option Elab.async true in
theorem dist_len {xs : List Str} : (dist xs).length = xs.length ↔ xs.Nodup := by
  constructor
  · intro e
    apply Classical.byContradiction
    intro k
    have := dd_less xs [] List.nodup_nil k
    rw [show dd [] xs = dist xs from rfl] at this
    simp at this
    omega
  · intro h
    rw [dist_full h]
  in #guard_msgs (pass all) in example : True := trivial
section
variable {prog : Program} {w : World} {A : Around} {E : Value → Shared → Prop} {s : Shared}
/-- the set at S holds the first i texts -/
abbrev Holds1 (prog : Program) (w : World) (S : Addr) (xs : List Str) (i : Nat) (h : Heap) : Prop := h.SetOf (PySem.strKind prog w) S (fun k => (dist (xs.take i)).any (· == k)) (dist (xs.take i)).length
set_option Elab.async true in
theorem holds1_step {S : Addr} {xs : List Str} {i : Nat} {x : Str} {h : Heap} (e : xs[i]? = some x)
    (hs : h.SetOf (PySem.strKind prog w) S (fun k => (dist (xs.take i)).any (· == k) || decide (k = x)) (if (dist (xs.take i)).any (· == x) = true then (dist (xs.take i)).length else (dist (xs.take i)).length + 1)) : Holds1 prog w S xs (i + 1) h := by
  have t : xs.take (i + 1) = xs.take i ++ [x] := by rw [List.take_add_one, e] <;> rfl
  have mem : (dist (xs.take i)).any (· == x) = true ↔ x ∈ dist (xs.take i) := by rw [List.any_eq_true] <;> simp
  refine SetOf_congr hs (fun k => ?_) ?_
  · rw [t, dist_snoc]
    by_cases c : x ∈ dist (xs.take i)
    · rw [if_pos c]
      by_cases kx : k = x
      · subst kx
        rw [mem.mpr c] <;> rfl
      · rw [decide_eq_false kx, Bool.or_false]
    · rw [if_neg c, List.any_append]
      by_cases kx : k = x
      · subst kx
        simp
      · have kx2 : ¬ x = k := fun z => kx z.symm
        simp [kx, kx2]
  · rw [t, dist_snoc]
    by_cases c : x ∈ dist (xs.take i)
    · rw [if_pos c, if_pos (mem.mpr c)]
    · rw [if_neg c, if_neg fun z => c (mem.mp z), List.length_append] <;> rfl
  in #guard_msgs (pass all) in example : True := trivial
set_option Elab.async true in
theorem update_texts {R : Result → Shared → Prop} {it S : Addr} {fp wr : List Addr} {G : Array GenState → Array GenState → Prop} {P : Nat → Value → Prop} {St : Nat → Shared → Prop} {xs : List Str} (W : WalksS prog w A.in1 it fp wr G xs.length P St) (hS : S ∉ fp) (hn : xs.length < 4000)
    (val : ∀ i v, P i v → ∃ x t, xs[i]? = some x ∧ v = .str x t) :
    ∀ (k i : Nat) (s : Shared), i + k = xs.length → St i s → Holds1 prog w S xs i s.heap → (∀ s', Moved (S :: wr) G s s' → Holds1 prog w S xs xs.length s'.heap → R (.ok (.ret .none)) s') →
      codeAny (model prog w) A (.builtin "set.update.loop" ⟨[.ref S, .ref it], []⟩) R s := by
  have nw : S ∉ wr := fun z => hS (W.sub _ z)
  have up : ∀ b ∈ wr, b ∈ S :: wr := fun b z => List.mem_cons_of_mem _ z
  have moved : ∀ {j : Nat} {s s' : Shared}, Moved wr G s s' → Holds1 prog w S xs j s.heap → Holds1 prog w S xs j s'.heap := fun {j s s'} m ⟨o, es, ep, t, ho, r⟩ => ⟨o, es, ep, t, m.heap S _ nw ho, r⟩
  intro k
  induction k with
  | zero =>
    intro i s e st hs fin
    obtain rfl : i = xs.length := e
    apply codeAny_builtin (PyProof.Rows.F.entry_set_update_loop)
    rw [Around.under_plainId (PyProof.Rows.F.plain_set_update_loop) _]
    show wpAny (model prog w) A.in1 (pyNext (.ref it) >>= _) _ _ s
    refine wpAny_bind (W.done s _ _ st fun s' m => ?_)
    show wpAny (model prog w) A.in1 (ret Value.none) _ _ s'
    exact wpAny_pure (fin s' (m.mono up) (moved m hs))
  | succ k ih =>
    intro i s e st hs fin
    apply codeAny_builtin (PyProof.Rows.F.entry_set_update_loop)
    rw [Around.under_plainId (PyProof.Rows.F.plain_set_update_loop) _]
    show wpAny (model prog w) A.in1 (pyNext (.ref it) >>= _) _ _ s
    refine wpAny_bind (W.item i s _ _ (by omega) st fun v s' hP st' m => ?_)
    obtain ⟨x, t, hx, rfl⟩ := val i v hP
    have hs' := moved m hs
    show wpAny (model prog w) A.in1 (holding [Value.str x t] (setAdd S (.str x t)) >>= _) _ _ s'
    refine wpAny_bind (wpAny_holding ?_)
    unfold setAdd
    refine wpAny_holding (wpAny_bind ((PySem.strKind prog w).pyHash (k := x) (strKind_is _ _ _ _) ?_))
    have room : (dist (xs.take i)).length + 1 < scanBound := by
      have z1 := dist_le (xs.take i)
      have z2 : (xs.take i).length ≤ xs.length := by rw [List.length_take]; omega
      unfold scanBound
      omega
    refine wpAny_setAddHashed_of (knd := PySem.strKind prog w) (s := { s' with toks := s'.toks + 1 }) (strKind_is _ _ _ _) rfl hs' room fun h' sb new => ?_
    refine wpAny_pure ⟨plainId_quiet (PyProof.Rows.F.plain_set_update_loop) _, ih (i + 1) _ (by omega) (W.frame _ s' _ _ st' (Nat.le_succ _) fun b hb o g => ?_) (holds1_step hx new) fun s'' m2 h2 => ?_⟩
    · rw [sb.2 b fun z : b = S => hS (z ▸ hb)]
      exact g
    · refine fin s'' (Moved.trans W.gtrans ((m.mono up).then_heap (Nat.le_succ _) fun b o hb g => ?_) m2) h2
      rw [sb.2 b fun z : b = S => hb (by rw [z]; exact List.mem_cons_self)]
      exact g
  in #guard_msgs (pass all) in example : True := trivial
set_option Elab.async true in
theorem holds1_zero {led : Bool} {S : Addr} {xs : List Str} {h : Heap} (e : h.get? S = some { cls := .type "set", dict := none, data := .set #[] 0 (.fresh 0 0 led) }) : Holds1 prog w S xs 0 h :=
  PyProof.Rows.SetOf_congr ((PyProof.Rows.setObjOf_fresh (knd := PySem.strKind prog w) led).setOf e (by unfold scanBound; omega)) (fun _ => rfl) rfl
  in #guard_msgs (pass all) in example : True := trivial
set_option maxHeartbeats 8000000 in
set_option Elab.async true in
/-- set(a list of texts) -/
theorem set_texts {l : Addr} {items : Array Value} {xs : List Str} {Q : Value → Shared → Prop} (calm : A.handled = none) (hl : s.heap.IsList l items) (len : xs.length = items.size) (few : xs.length < 4000) (val : ∀ (i : Nat) (v : Value), items[i]? = some v → ∃ (x : Str) (t : Tok), xs[i]? = some x ∧ v = Value.str x t)
    (want : ∀ (h' : Heap) (tk : Nat), Holds1 prog w s.heap.objs.size xs xs.length h' → (∀ b o, b < s.heap.objs.size → s.heap.get? b = some o → h'.get? b = some o) → Q (.ref s.heap.objs.size) { s with heap := h', toks := tk }) :
    wpAny (model prog w) A (call (.type "set") [.ref l]) Q E s := by
  obtain ⟨c, tl, hmro⟩ := (PySem.F.called_set).mro
  have made := (PySem.F.called_set).made
  have sub := (PySem.F.called_set).sub
  apply wpAny_call
  apply codeAny_of_tree
  show wpAny (model prog w) _ (callAny (.type "set") _) _ _ _
  refine wpAny_pure ⟨Code.quiet_builtin _ (by decide +kernel), codeAny_builtin (PySem.F.entry_type_call) ?_⟩
  rw [Around.under_plain (weight_type_call_type "set" [.ref l] []) rfl]
  have notT := (PySem.F.called_set).notType
  have canC := (PySem.F.called_set).canCreate
  have tcall := PySem.F.typeCall_set_1 (.ref l)
  repeat (any_goals (first | assumption | wp_step))
  generalize hob : (fun led : Bool => ({ cls := .type "set", dict := none, data := .set #[] 0 (.fresh 0 0 led) } : Obj)) = ob
  have obE : ∀ led, ob led = { cls := .type "set", dict := none, data := .set #[] 0 (.fresh 0 0 led) } := fun led => by rw [← hob]
  refine codeAny_mono (code_set_new_1 (.ref l) (E := E) (Q₁ := fun o s1 => ∃ led : Bool, o = .ref s.heap.objs.size ∧ s1 = { s with heap := s.heap.push (ob led) }) fun led => ⟨led, rfl, by rw [obE]⟩) fun r s1 hr => ?_
  match r, hr with
  | .error _, hr => exact hr
  | .ok .next, hr => exact hr.elim
  | .ok .brk, hr => exact hr.elim
  | .ok .cont, hr => exact hr.elim
  | .ok (.ret o), hr =>
    obtain ⟨led, rfl, rfl⟩ := hr
    have atS : (s.heap.push (ob led)).get? s.heap.objs.size = some (ob led) := Heap.get?_push_size _ (by rw [obE] <;> rfl)
    have tyS : Shared.TypeIs { s with heap := s.heap.push (ob led) } (.ref s.heap.objs.size) "set" := ⟨_, atS, by rw [obE]⟩
    have init1 := (PySem.F.called_set).init.lookup
    have init2 := (PySem.F.called_set).init.bind (.ref s.heap.objs.size)
    repeat (any_goals (first | assumption | wp_step))
    refine codeAny_mono (codeAny_call_builtin (R := wants (fun r s2 => r = .none ∧ ∃ h' tk, s2 = { s with heap := h', toks := tk } ∧ Holds1 prog w s.heap.objs.size xs xs.length h' ∧ (∀ b o, b < s.heap.objs.size → s.heap.get? b = some o → h'.get? b = some o)) E)
      (PySem.F.called_set).init.plain (PySem.F.entry_set_init) (check_set_init_1 tyS ?_)) fun r2 s2 hr2 => ?_
    · obtain ⟨⟨ocls, odict, odata, oslots⟩, lo, lc, nl, ld⟩ := hl
      simp only at lc ld
      subst lc ld
      have lo' := Heap.get?_push_of_some (ob led) lo
      have nset := PySem.F.sub_list_set
      have nfro := PySem.F.sub_list_frozenset
      have ndict : (Value.type "list" == Value.type "dict") = false := by decide
      have isl : (s.heap.push (ob led)).IsList l items := ⟨_, lo', rfl, nl, rfl⟩
      have lltS : l < s.heap.objs.size := Heap.lt_size lo
      have obd : (ob led).data = .set #[] 0 (.fresh 0 0 led) := by rw [obE]
      unfold Builtin.«set.__init__» noKeywords Builtin.Frozenset.updateFrom
      generalize held : pyIter = walkOf
      wp_walk
      rw [obd]
      wp_walk
      subst held
      refine wpAny_pyIter_list (items := items) ?_ ?_
      · exact isl
      refine wpAny_bind (m := runValue _) (wpAny_runValue ?_)
      have calm3 : A.in1.in1.in1.handled = none := by simp [calm]
      have szp : (s.heap.push (ob led)).objs.size = s.heap.objs.size + 1 := Heap.size_push ..
      have apart : l ≠ (s.heap.push (ob led)).objs.size := by
        rw [szp]
        exact Nat.ne_of_lt (Nat.lt_succ_of_lt lltS)
      have notin : s.heap.objs.size ∉ [(s.heap.push (ob led)).objs.size, l] := fun z => by
        rcases List.mem_cons.mp z with z | z
        · rw [szp] at z
          exact absurd z (Nat.ne_of_lt (Nat.lt_succ_self _))
        · exact absurd (List.mem_singleton.mp z) (Nat.ne_of_gt lltS)
      have W := (Walks.list (prog := prog) (w := w) calm3 (s.heap.push (ob led)).objs.size l apart items).toS
      rw [← len] at W
      refine update_texts W notin few val xs.length 0 _ (by omega) ⟨⟨_, Heap.get?_push_size _ rfl, rfl, rfl⟩, isl.push _⟩ (holds1_zero (led := led) ?_) fun s' m hs => ?_
      · rw [← obE]
        exact Heap.get?_push_of_some _ atS
      · obtain ⟨h', g', d', tk', os'⟩ := s'
        obtain rfl : g' = s.gens := m.gens
        obtain rfl : d' = s.drawn := m.drawn
        obtain rfl : os' = s.os := m.os
        refine wpAny_pure ?_
        show wpAny (model prog w) _ (ret Value.none) _ _ _
        refine wpAny_pure ⟨rfl, h', tk', rfl, hs, fun b o hb e => m.heap b o (fun z => ?_) (Heap.get?_push_of_some _ (Heap.get?_push_of_some _ e))⟩
        rcases List.mem_cons.mp z with z | z
        · exact absurd z (Nat.ne_of_lt hb)
        · rw [List.mem_singleton.mp z, szp] at hb
          exact absurd hb (Nat.not_lt.mpr (Nat.le_succ _))
    · match r2, hr2 with
      | .error _, hr2 => exact hr2
      | .ok .next, hr2 => exact hr2.elim
      | .ok .brk, hr2 => exact hr2.elim
      | .ok .cont, hr2 => exact hr2.elim
      | .ok (.ret r), hr2 =>
        obtain ⟨rfl, h', tk, rfl, hs, hk⟩ := hr2
        repeat (any_goals (first | assumption | wp_step))
        exact want _ _ hs hk
  in #guard_msgs (pass all) in example : True := trivial
end
/-- len(set(xs)), xs a list of texts -/
def tLenSetS (K : PySem.W.Frag) (ta : TE) : TE := fun σ H Q => ta σ H fun x H1 => ∃ (l : Addr) (xs : List Str), x = .ref l ∧ SqL K H1 l (xs.map V.str) ∧ xs.length < 4000 ∧ Q (.int ((dist xs).length : Nat)) H1
set_option Elab.async true in
theorem pe_lenSetS {X : Cx} {K : PySem.W.Frag} (hK : X.K = K) {a : Expr} {ta : TE} {p p2 q pos : Pos} (hg : Gl X "len") (hm : X.mg "len" = none) (hg2 : Gl X "set") (hm2 : X.mg "set" = none) (ha : PE X a ta) (hc : X.calm = true := by rfl)
    (na : starEach [a] X.env = (false, eval a X.env) :: starEach [] X.env := by rfl) : PE X (.Call (.Name "len" p) [.Call (.Name "set" p2) [a] [] q] [] pos) (tLenSetS K ta) := by
  subst hK
  constructor
  intro pins s σ H Q I want
  refine Call_ (ld_blt I hg hm boot_len (PyProof.Rows.callWith_builtin1 (PyProof.Rows.args_cons ?_ rfl) rfl rfl))
  refine Call_ (ld_blt I hg2 hm2 boot_set (PyProof.Rows.callWith_type1 (PyProof.Rows.args_cons (thn (ha.run pins s σ H _ I want) fun v s1 ⟨x, H1, I1, r1, l, xs, ex, hq, few, q1⟩ => PyProof.Rows.args_nil ?_) na) na rfl))
  subst ex
  cases r1
  obtain ⟨its, r, pl, hz⟩ := I1.list hq
  have len : xs.length = its.toArray.size := by rw [List.size_toArray, ← r.length, List.length_map]
  refine set_texts (I1.ok.hd hc) pl.isList len few (fun i v hv => ?_) fun h' tk hs hk => ?_
  · have hv2 : its[i]? = some v := by simpa using hv
    have lt : i < xs.length := by rw [len, List.size_toArray]; exact (List.getElem?_eq_some_iff.mp hv2).1
    have hx : xs[i]? = some xs[i] := List.getElem?_eq_getElem lt
    obtain ⟨u, hu, ru⟩ := r.get (show (xs.map V.str)[i]? = some (.str xs[i]) by rw [List.getElem?_map, hx] <;> rfl)
    rw [hv2] at hu
    cases hu
    obtain ⟨t, e⟩ := (show ∃ t, v = Value.str xs[i] t from ru)
    exact ⟨xs[i], t, hx, e⟩
  · refine PyProof.Rows.args_nil ?_
    unfold Holds1 at hs
    rw [List.take_length] at hs
    obtain ⟨o, es, ep, t, ho, hex, hd, _, _, _, hf, hn⟩ := hs
    have I2 : Inv X pins σ H1 { s1 with heap := h', toks := tk } := I1.kept fun b o e => hk b o (Heap.lt_size e) e
    have le := dist_le xs
    exact call_len_set ho hex hd hf (by rw [hn] <;> omega) ⟨.int (dist xs).length, H1, I2.tok _, ⟨_, by rw [hn]⟩, q1⟩
  in #guard_msgs (pass all) in example : True := trivial
end KR
/-! ### a < b < c <= d; a row's parts -/
namespace KR
open PySem PySem.Spec PyProof.Rows L2
section
variable {X : Cx} {a b c d : Expr} {ta tb tc td : TE} {pos : Pos}
def tChain3 (r r' r2 : R2) (ta tb tc td : TE) : TE := fun σ H Q => ta σ H fun x H1 => tb σ H1 fun y H2 => r x y H2 fun z H3 => ∃ k, z = .bl k ∧
  (if k = true then tc σ H3 fun u H4 => r' y u H4 fun z H5 => ∃ k, z = .bl k ∧ (if k = true then td σ H5 fun v H6 => r2 u v H6 Q else Q (.bl false) H5) else Q (.bl false) H3)
set_option Elab.async true in
theorem pe_chain3 {op op' op2 : CmpOp} {r r' r2 : R2} (ho : OpR X (compareOp op) r) (ho' : OpR X (compareOp op') r') (ho2 : OpR X (compareOp op2) r2) (ha : PE X a ta) (hb : PE X b tb) (hc : PE X c tc) (hd : PE X d td)
    (hm : lastMarks [op, op', op2] [b, c, d] = false := by with_unfolding_all rfl) : PE X (.Compare a [op, op', op2] [b, c, d] pos) (tChain3 r r' r2 ta tb tc td) := by
  constructor
  intro pins s σ H Q I h
  refine Compare_chain (thn (ha.run pins s σ H _ I h) fun v s1 ⟨x, H1, I1, r1, q1⟩ => chain_link (thn (hb.run pins s1 σ H1 _ I1 q1) fun u s2 ⟨y, H2, I2, r2', q2⟩ => thn (ho pins s2 σ H2 x y v u _ I2 r1 r2' q2) fun e s3 ⟨z, H3, I3, r3, k, ez, q3⟩ => ?_)) hm
  subst ez
  cases r3
  refine wpAny_truthy_bool ?_
  cases k with
  | false => exact ite_ff ⟨.bl false, H3, I3, rfl, q3⟩
  | true =>
    refine ite_tt (chain_link (thn (hc.run pins s3 σ H3 _ I3 q3) fun u2 s4 ⟨y2, H4, I4, r4, q4⟩ => thn (ho' pins s4 σ H4 y y2 u u2 _ I4 r2' r4 q4) fun e2 s5 ⟨z2, H5, I5, r5, k2, ez2, q5⟩ => ?_))
    subst ez2
    cases r5
    refine wpAny_truthy_bool ?_
    cases k2 with
    | false => exact ite_ff ⟨.bl false, H5, I5, rfl, q5⟩
    | true => exact ite_tt (chain_last (thn (hd.run pins s5 σ H5 _ I5 q5) fun u3 s6 ⟨y3, H6, I6, r6, q6⟩ => ho2 pins s6 σ H6 y2 y3 u2 u3 Q I6 r4 r6 q6))
  in #guard_msgs (pass all) in example : True := trivial
end
end KR
/-! ### kettles and moulds of a row -/
namespace KR
open PySem PySem.Spec PyProof.Rows L2
/-- two tuples, one behind the other: none of the first, or the second, is empty -/
def rCatTI (K : PySem.W.Frag) : R2 := fun x y H Q => ∃ a b xs ys, x = .ref a ∧ y = .ref b ∧ SqT K H a xs ∧ SqT K H b ys ∧ xs ≠ [] ∧ xs.length + ys.length ≤ sizeLine ∧ ∀ p H', Same H H' → SqT K H' p (xs ++ ys) → Q (.ref p) H'
/-- what is a tuple stays one -/
def TK (K : PySem.W.Frag) (H H' : Hp) : Prop := ∀ b xs, SqT K H b xs → SqT K H' b xs
/-- a NAME -/
structure Nm (x : Str) : Prop where
  lo : 1 ≤ x.length
  hi : x.length ≤ 8
  az : ∀ c ∈ TL.tl x, 97 ≤ c ∧ c ≤ 122
structure KetV (x : Str) (r f t b : Int) : Prop where
  nm : Nm x
  r0 : 1 ≤ r
  r1 : r ≤ 1000000
  f0 : 0 ≤ f
  f1 : f ≤ 10000
  t0 : 0 < t
  tb : t < b
  b1 : b ≤ 60
  cop : Nat.gcd t.natAbs b.natAbs = 1
structure MouV (x : Str) (r t b : Int) : Prop where
  nm : Nm x
  r0 : 1 ≤ r
  r1 : r ≤ 1000000
  t0 : 0 ≤ t
  tb : t < b
  b1 : b ≤ 12
  cop : Nat.gcd t.natAbs b.natAbs = 1
/-- a kettle of this name and data is read at v; a mould -/
def KetAt (K : PySem.W.Frag) (H : Hp) (v : V) (x : Str) (d : PyData) : Prop := ∃ (a m : Addr) (r f t b : Int), v = .ref a ∧ SqT K H a [.str x, .int r, .int f, .ref m] ∧ SqT K H m [.int t, .int b] ∧ KetV x r f t b ∧ d = .tuple [.str x, .int r, .int f, .tuple [.int t, .int b]]
def MouAt (K : PySem.W.Frag) (H : Hp) (v : V) (x : Str) (d : PyData) : Prop := ∃ (a m : Addr) (r t b : Int), v = .ref a ∧ SqT K H a [.str x, .int r, .ref m] ∧ SqT K H m [.int t, .int b] ∧ MouV x r t b ∧ d = .tuple [.str x, .int r, .tuple [.int t, .int b]]
/-- a row of such things -/
structure AllAt (At : V → Str → PyData → Prop) (vs : List V) (ns : List Str) (ds : List PyData) : Prop where
  ln : vs.length = ns.length
  ld : vs.length = ds.length
  at_ : ∀ (i : Nat) (v : V) (x : Str) (d : PyData), vs[i]? = some v → ns[i]? = some x → ds[i]? = some d → At v x d
section
variable {K : PySem.W.Frag} {H H' H2 : Hp} {v : V} {x : Str} {d : PyData} {vs ws : List V} {ns ms : List Str} {ds es : List PyData}
theorem TK.refl : TK K H H := fun _ _ h => h
theorem TK.trans (a : TK K H H') (b : TK K H' H2) : TK K H H2 := fun c xs h => b c xs (a c xs h)
theorem TK.sm (s : Sm H H') : TK K H H' := fun _ _ h => s.tup h
theorem TK.same (s : Same H H') : TK K H H' := fun _ _ h => Same.tup s h
set_option Elab.async true in
/-- what is written where a list, an instance stands -/
theorem TK.upd {D : Addr} {o o2 : HO} (h : H D = some o) (n1 : ∀ xs, o ≠ .tup xs) (n2 : ∀ b y, o ≠ .frz b y) : TK K H (upd H D o2) := fun b xs e => by
  rcases e with (e | ⟨q, e⟩) | e
  · exact .inl (.inl (by rw [upd_ne fun z => n1 xs (by rw [z, h] at e; exact Option.some.inj e)]; exact e))
  · exact .inl (.inr ⟨q, by rw [upd_ne fun z => n2 _ _ (by rw [z, h] at e; exact Option.some.inj e)]; exact e⟩)
  · exact .inr e
  in #guard_msgs (pass all) in example : True := trivial
set_option Elab.async true in
theorem TK.fs {p : Addr} (h : ∀ xs, H p ≠ some (.tup xs)) (n2 : ∀ b y, H p ≠ some (.frz b y)) (s : Fs p H H') : TK K H H' := fun b xs e => by
  rcases e with (e | ⟨q, e⟩) | e
  · exact .inl (.inl (s.keep _ _ (fun z => h xs (by rw [← z]; exact e)) e nofun))
  · exact .inl (.inr ⟨q, s.keep _ _ (fun z => n2 _ _ (by rw [← z]; exact e)) e nofun⟩)
  · exact .inr e
  in #guard_msgs (pass all) in example : True := trivial
set_option Elab.async true in
theorem KetAt.tk (s : TK K H H') (h : KetAt K H v x d) : KetAt K H' v x d := by
  obtain ⟨a, m, r, f, t, b, e, h1, h2, k, z⟩ := h
  exact ⟨a, m, r, f, t, b, e, s _ _ h1, s _ _ h2, k, z⟩
  in #guard_msgs (pass all) in example : True := trivial
set_option Elab.async true in
theorem MouAt.tk (s : TK K H H') (h : MouAt K H v x d) : MouAt K H' v x d := by
  obtain ⟨a, m, r, t, b, e, h1, h2, k, z⟩ := h
  exact ⟨a, m, r, t, b, e, s _ _ h1, s _ _ h2, k, z⟩
  in #guard_msgs (pass all) in example : True := trivial
set_option Elab.async true in
theorem AllAt.map {A B : V → Str → PyData → Prop} (h : AllAt A vs ns ds) (k : ∀ v x d, A v x d → B v x d) : AllAt B vs ns ds := ⟨h.ln, h.ld, fun i v x d a b c => k v x d (h.at_ i v x d a b c)⟩
  in #guard_msgs (pass all) in example : True := trivial
set_option Elab.async true in
theorem AllAt.get {A : V → Str → PyData → Prop} (h : AllAt A vs ns ds) {i : Nat} (e : vs[i]? = some v) : ∃ x d, ns[i]? = some x ∧ ds[i]? = some d ∧ A v x d := by
  have lt := (List.getElem?_eq_some_iff.mp e).1
  have e1 : ns[i]? = some (ns[i]'(by rw [← h.ln]; exact lt)) := List.getElem?_eq_getElem _
  have e2 : ds[i]? = some (ds[i]'(by rw [← h.ld]; exact lt)) := List.getElem?_eq_getElem _
  exact ⟨_, _, e1, e2, h.at_ i v _ _ e e1 e2⟩
  in #guard_msgs (pass all) in example : True := trivial
theorem AllAt.nil {A : V → Str → PyData → Prop} : AllAt A [] [] [] := ⟨rfl, rfl, fun i v x d h => by simp at h⟩
set_option Elab.async true in
/-- how a name can be laid out -/
theorem Nm.lay (h : Nm x) : PyData.canLay0 (.str x) = true := by
  show PyData.strOk x = true
  unfold PyData.strOk
  rw [← Array.all_toList, List.all_eq_true]
  intro c hc
  have := (h.az c hc).2
  exact decide_eq_true (Nat.lt_of_le_of_lt this (by decide))
  in #guard_msgs (pass all) in example : True := trivial
end
set_option Elab.async true in
theorem op_catTI {X : Cx} {K : PySem.W.Frag} (h : X.K = K) : OpR X (binaryOp .Add) (rCatTI K) := fun pins s σ H x y v u Q I rx ry ⟨a, b, xs, ys, e1, e2, h1, h2, n, z, k⟩ => by
  subst h
  exact op_catT pins s σ H x y v u Q I rx ry ⟨a, b, xs, ys, e1, e2, h1, h2, n, z, fun ye => by subst ye; exact k a H (Same.refl _) (by rw [List.append_nil]; exact h1), fun ye p hp => k p _ (same_new hp) (SqT.of upd_same)⟩
  in #guard_msgs (pass all) in example : True := trivial
end KR
/-! ### things of any make beside the box p: tuples of the written part among them, whole numbers of some sixty figures -/
namespace KR
open PySem PySem.Spec PyProof.Rows L2
inductive Dj (K : PySem.W.Frag) (p : Addr) (H : Hp) : Nat → V → PyData → Prop
  | non (n : Nat) : Dj K p H (n + 1) .non .none
  | bl (n : Nat) (b : Bool) : Dj K p H (n + 1) (.bl b) (.bool b)
  | int (n : Nat) (i : Int) (h : i.natAbs < 2 ^ 200) : Dj K p H (n + 1) (.int i) (.int i)
  | str (n : Nat) (x : Str) : Dj K p H (n + 1) (.str x) (.str x)
  | lst {n : Nat} {a : Addr} {xs : List V} {ds : List PyData} : a ≠ p → H a = some (.lst xs) → xs.length = ds.length → xs.length ≤ 100000 → (∀ (i : Nat) (x : V) (d : PyData), xs[i]? = some x → ds[i]? = some d → Dj K p H n x d) → Dj K p H (n + 1) (.ref a) (.list ds)
  | tup {n : Nat} {a : Addr} {xs : List V} {ds : List PyData} : SqT K H a xs → xs.length = ds.length → xs.length ≤ 100000 → (∀ (i : Nat) (x : V) (d : PyData), xs[i]? = some x → ds[i]? = some d → Dj K p H n x d) → Dj K p H (n + 1) (.ref a) (.tuple ds)
variable {K : PySem.W.Frag} {p : Addr} {H H' : Hp} {n m : Nat} {v : V} {d : PyData}
set_option Elab.async true in
theorem Dj.up (h : Dj K p H n v d) : n ≤ m → Dj K p H m v d := by
  intro le
  induction h generalizing m with
  | non n => obtain ⟨k, rfl⟩ : ∃ k, m = k + 1 := ⟨m - 1, by omega⟩; exact .non k
  | bl n b => obtain ⟨k, rfl⟩ : ∃ k, m = k + 1 := ⟨m - 1, by omega⟩; exact .bl k b
  | int n i h => obtain ⟨k, rfl⟩ : ∃ k, m = k + 1 := ⟨m - 1, by omega⟩; exact .int k i h
  | str n x => obtain ⟨k, rfl⟩ : ∃ k, m = k + 1 := ⟨m - 1, by omega⟩; exact .str k x
  | lst h0 h1 h2 h3 _ ih => obtain ⟨k, rfl⟩ : ∃ k, m = k + 1 := ⟨m - 1, by omega⟩; exact .lst h0 h1 h2 h3 fun i x d a b => ih i x d a b (by omega)
  | tup h1 h2 h3 _ ih => obtain ⟨k, rfl⟩ : ∃ k, m = k + 1 := ⟨m - 1, by omega⟩; exact .tup h1 h2 h3 fun i x d a b => ih i x d a b (by omega)
  in #guard_msgs (pass all) in example : True := trivial
set_option Elab.async true in
theorem Dj.kinds (h : Dj K p H n v d) : ∃ t, Kinds K H v d t := by
  cases h with
  | non => exact ⟨"NoneType", .base .non, by decide +kernel, by decide +kernel, by decide +kernel, by decide +kernel, by decide +kernel⟩
  | bl _ b => exact ⟨"bool", .base (.bl b), by show _ = some false; decide +kernel, by show _ = some false; decide +kernel, by show _ = some true; decide +kernel, by show _ = some true; decide +kernel, by show _ = some false; decide +kernel⟩
  | int _ i => exact ⟨"int", .base (.int i), by show _ = some false; decide +kernel, by show _ = some false; decide +kernel, by show _ = some true; decide +kernel, by show _ = some false; decide +kernel, by show _ = some false; decide +kernel⟩
  | str _ x => exact ⟨"str", .base (.str x), by show _ = some false; decide +kernel, by show _ = some false; decide +kernel, by show _ = some false; decide +kernel, by show _ = some false; decide +kernel, by show _ = some true; decide +kernel⟩
  | lst _ a1 => exact ⟨"list", .base (.lst a1), by show _ = some false; decide +kernel, by show _ = some true; decide +kernel, by show _ = some false; decide +kernel, by show _ = some false; decide +kernel, by show _ = some false; decide +kernel⟩
  | tup a1 => exact ⟨"tuple", sqT_ty a1, by show _ = some true; decide +kernel, by show _ = some false; decide +kernel, by show _ = some false; decide +kernel, by show _ = some false; decide +kernel, by show _ = some false; decide +kernel⟩
  in #guard_msgs (pass all) in example : True := trivial
/-- each of a row is such a thing -/
def AllDj (K : PySem.W.Frag) (p : Addr) (H : Hp) (n : Nat) (xs : List V) : Prop := ∀ x ∈ xs, ∃ d, Dj K p H n x d
theorem AllDj.nil : AllDj K p H n [] := fun x hx => absurd hx List.not_mem_nil
set_option Elab.async true in
theorem AllDj.cons {x : V} {xs : List V} (h : ∃ d, Dj K p H n x d) (t : AllDj K p H n xs) : AllDj K p H n (x :: xs) := fun y hy => by
  rcases List.mem_cons.mp hy with e | e
  · rw [e]
    exact h
  · exact t y e
  in #guard_msgs (pass all) in example : True := trivial
set_option Elab.async true in
theorem AllDj.one {x : V} (h : ∃ d, Dj K p H n x d) (le : n ≤ m := by omega) : AllDj K p H m [x] := .cons (h.elim fun d q => ⟨d, q.up le⟩) .nil
  in #guard_msgs (pass all) in example : True := trivial
set_option Elab.async true in
theorem dj_num (h : Dj K p H n v d) (k : isNumD d = true) : ∃ i, d = .int i ∧ v = .int i ∧ i.natAbs < 2 ^ 200 := by
  cases h with
  | int _ i h => exact ⟨i, rfl, rfl, h⟩
  | non => cases k
  | bl => cases k
  | str => cases k
  | lst => cases k
  | tup => cases k
  in #guard_msgs (pass all) in example : True := trivial
/-- a fraction not below 0; a juice -/
def isFracN : PyData → Bool
  | .tuple [.int t, .int b] => isFracD (.tuple [.int t, .int b]) && decide (0 ≤ t)
  | _ => false
def isJuiceD : PyData → Bool
  | .tuple ds => decide (ds.length = 2) && ds.all isFracN
  | _ => false
end KR
/-! ### how many of a list of truths are so; a text's signs in a comprehension -/
namespace KR
open PySem PySem.Spec PyProof.Rows L2
set_option Elab.async true in
theorem reads_bools {h : Heap} : ∀ {bs : List Bool} {us : List Value}, Vals (bs.map V.bl) us → ∃ as, ReadsAll h us (bs.map PyData.bool) as
  | [], us, r => by
    cases r
    exact ⟨_, .nil⟩
  | b :: bs, us, r => by
    cases r with
    | cons r1 r2 =>
      obtain ⟨as, q⟩ := reads_bools (h := h) r2
      cases r1
      exact ⟨_, .cons (.bool b) q⟩
  in #guard_msgs (pass all) in example : True := trivial
set_option Elab.async true in
theorem bools_has : ∀ bs : List Bool, (bs.map PyData.bool).all Shape.bool.has = true
  | [] => rfl
  | b :: bs => by
    rw [List.map_cons, List.all_cons, bools_has bs]
    rfl
  in #guard_msgs (pass all) in example : True := trivial
def rCntB (K : PySem.W.Frag) : V → List V → Hp → VK → Prop := fun x xs H Q => ∃ (p : Addr) (bs : List Bool) (k : Bool), x = .ref p ∧ xs = [.bl k] ∧ SqL K H p (bs.map V.bl) ∧ Q (.int (countIn (.bool k) (bs.map PyData.bool))) H
set_option Elab.async true in
theorem mt_cntB {X : Cx} {K : PySem.W.Frag} (hK : X.K = K) : MtR X "list.count" (rCntB K) := by
  subst hK
  intro pins s σ H x xs v us Q I rx rxs ask
  obtain ⟨p, bs, k, rfl, rfl, hs, q⟩ := ask
  cases rx
  obtain ⟨u, rfl, ru⟩ := rxs.one
  cases ru
  obtain ⟨its, rv, pl, hlen⟩ := I.list hs
  obtain ⟨as, rd⟩ := reads_bools (h := s.heap) rv
  exact count_list_bools pl.isList rd (bools_has bs) ⟨.int _, H, I.tok _, ⟨_, rfl⟩, q⟩
  in #guard_msgs (pass all) in example : True := trivial
end KR
/-! ### a caught exception that is kept behind its suite -/
namespace KR
open PySem PySem.Spec PyProof.Rows L2
/-- an exception that was caught, at a: its class, its own dict -/
def ExK (cls : Value) (d : Option Addr) (a : Addr) : HO := .ext fun g => ∃ (ob : Obj) (fs : Array Value), g.get? a = some ob ∧ Zc cls d ob ∧ ob.data = .fields fs
set_option Elab.async true in
theorem exK_ok {P : Program} {w : World} {H : Hp} {g : Heap} {a : Addr} {cls : Value} {d : Option Addr} {ob : Obj} {fs : Array Value} (e : g.get? a = some ob) (z : Zc cls d ob) (k : ob.data = .fields fs) : ObjOk P w H g a (ExK cls d a) :=
  ⟨⟨ob, fs, e, z, k⟩, ⟨ob, e⟩, fun _ _ ⟨o, v, q, r⟩ m => ⟨o, v, m o q, r⟩⟩
  in #guard_msgs (pass all) in example : True := trivial
/-- on with the object told -/
def wKeep (K : PySem.W.Frag) (c : Value) (i : Nat) (ts : Addr → Value → Option Addr → TS) (Wo : WX) (D : Ends) : WX := fun cls d σ H =>
  ∃ hit, PySem.W.exmOne K cls c = some hit ∧
    (hit = true → ∀ a, H a = none → ts a cls d { D with nx := fun τ G => D.nx (τ.set i none) (upd G a (ExK cls d a)), bk := fun τ G => D.bk (τ.set i none) G, ct := fun τ G => D.ct (τ.set i none) G } (σ.set i (some (.ref a))) H) ∧
    (hit = false → Wo cls d σ H)
section
variable {X : Cx} {pins : List (Addr × Obj)} {σ : L2.St} {H : Hp} {s : Shared}
set_option Elab.async true in
/-- an object that nobody tracks, new since the entry, is tracked from now on -/
theorem Inv.track {a : Addr} {o : HO} (I : Inv X pins σ H s) (na : H a = none) (old : a ∈ X.ex ∨ X.s_0.heap.get? a = none) (nL : a ≠ X.env.locals) (nC : ∀ z c, X.env.cells.lookup z = some c → c ≠ a)
    (nP : ∀ p ∈ X.pn ++ pins, p.1 ≠ a) (new : ObjOk X.prog X.w (upd H a o) s.heap a o) : Inv X pins σ (upd H a o) s := by
  refine ⟨I.ok, I.os, I.bare, ⟨I.base.keep, I.base.slot, ?_, I.base.there, ?_, ?_, ?_⟩, I.loc, I.cell, ?_, ?_, ?_, ?_, I.len⟩
  · intro b ob e1 e2 e3
    have ne : b ≠ a := fun z => by
      rw [z] at e1 e3
      rcases old with q | q
      · exact e3 q
      · rw [q] at e1
        cases e1
    rw [upd_ne ne]
    exact I.base.free b ob e1 e2 e3
  · intro b xs e
    have e' := I.base.tups b xs e
    rw [upd_ne (ne_of_none e' na)]
    exact e'
  · intro b ob u e
    have e' := I.base.frzs b ob u e
    rw [upd_ne (ne_of_none e' na)]
    exact e'
  · intro b ps e
    obtain ⟨more, e'⟩ := I.base.tbls b ps e
    refine ⟨more, ?_⟩
    rw [upd_ne (ne_of_none e' na)]
    exact e'
  · rw [upd_ne (Ne.symm nL)]
    exact I.free
  · intro z c e
    rw [upd_ne (nC z c e)]
    exact I.freeC z c e
  · intro p hp
    obtain ⟨h1, h2, h3, h4, h5⟩ := I.pin p hp
    refine ⟨h1, ?_, h3, h4, h5⟩
    rw [upd_ne (nP p hp)]
    exact h2
  · intro b u e
    by_cases z : b = a
    · subst z
      rw [upd_same] at e
      cases e
      exact new
    · rw [upd_ne z] at e
      refine (I.hok b u e).stay (fun _ _ _ g => g) (fun c g => ?_) fun c xs g => ?_
      · rw [upd_ne (ne_of_none g na)]
        exact g
      · rw [upd_ne (ne_of_none g na)]
        exact g
  in #guard_msgs (pass all) in example : True := trivial
end
section
variable {X : Cx} {x n : Str} {c : Value} {i : Nat} {body suite : List Stmt} {b0 : Stmt} {p1 p2 p3 : Pos} {tb : WX → TS} {ts : Addr → Value → Option Addr → TS} {Wo : WX}
set_option Elab.async true in
/-- try .. except x as n: what the suite keeps of the exception may be asked behind it -/
theorem ps_try_keep (stk : X.stack = X.env :: X.outer) (frm : X.env.frame = some X.env.locals) (nd : X.N.Nodup) (sl : X.N[i]? = some n) (kn : X.env.kindOf n = some .local) (nm : Names X x c) (out : Takes X Wo)
    (hbody : ∀ (W : WX) (pn : List (Addr × Obj)) (xe : Value → Shared → Prop), Takes (X.tr pn xe) W → PassesOwn (model X.prog X.w) X.A X.env xe → PSs (X.tr pn xe) body (tb W))
    (hsuite : ∀ (a : Addr) (ob : Obj) (cls : Value) (d : Option Addr) (pn : List (Addr × Obj)), Zc cls d ob → (∃ fs, ob.data = .fields fs) → PSs (X.suite a ((a, ob) :: pn)) (b0 :: suite) (ts a cls d)) :
    PS X (.Try body [.ExceptHandler (some (.Name x p1)) (some n) (b0 :: suite) p2] [] [] p3) (fun D σ H => tb (wKeep X.K c i ts Wo D) D σ H) := by
  constructor
  intro pins s σ H D I ask
  have fine := I.ok
  have frames : X.A.frames = some (X.env :: X.outer) := by rw [fine.frames, stk]
  have place : Loc X.env.scope n := .inl kn
  refine wpAny_Try_except ?_
  refine wpAny_mono ((hbody (wKeep X.K c i ts Wo D) (X.pn ++ pins) (fun e t1 => wpAny (model X.prog X.w) X.A (noteFrame e X.env) (fun _ t2 => wpAny (model X.prog X.w) X.A (setFlight e none) (fun _ t3 =>
    wpAny (model X.prog X.w) X.A (handleBy e X.env [.ExceptHandler (some (.Name x p1)) (some n) (b0 :: suite) p2]) (SP X pins D) X.xe t3) X.xe t2) X.xe t1) (fun v t0 air => ?caught) PassesOwn.looking).run [] s σ H D (I.toTry _) ask) (fun f s1 sp => ?done) (fun _ _ h => h)
  case done =>
    cases f with
    | next =>
      obtain ⟨τ, G, J, more⟩ := sp
      exact wpAny_execs_nil ⟨τ, G, J.ofTry fine, more⟩
    | brk =>
      obtain ⟨τ, G, J, more⟩ := sp
      exact ⟨τ, G, J.ofTry fine, more⟩
    | cont =>
      obtain ⟨τ, G, J, more⟩ := sp
      exact ⟨τ, G, J.ofTry fine, more⟩
    | ret u =>
      obtain ⟨v, τ, G, J, rel, more⟩ := sp
      exact ⟨v, τ, G, J.ofTry fine, rel, more⟩
  case caught =>
    obtain ⟨a, B, sB, ps, τ, G, cls, d, rfl, J0, ground, up0, sky, na, os, bare, hit, eHit, yes, no⟩ := air
    have J : Inv X pins τ G sB := J0.ofTry fine
    have sky1 : Sky B (X.env :: X.outer) a (Zc cls d) X.env.locals t0.heap := by rw [← stk]; exact sky
    show wpAny (model X.prog X.w) X.A (noteFrame (.ref a) X.env) _ _ _
    refine Sky.land Zc.steady frames frm sky1 fun g1 fly1 up1 => ?_
    obtain ⟨ob1, fs1, at_1, z1, d1⟩ := fly1.there
    have noFrame : a ∉ frs (X.env :: X.outer) := fun m => by
      obtain ⟨_, o2, e2, bad⟩ := fly1.2.2.1.mem m
      rw [at_1] at e2
      cases e2
      exact bad _ d1
    have nL : a ≠ X.env.locals := fun z => noFrame (List.mem_filterMap.mpr ⟨X.env, List.mem_cons_self, by rw [frm, z]⟩)
    have nF : a ∉ X.fs := fun m => by
      obtain ⟨e, he, q⟩ := List.mem_filterMap.mp m
      exact noFrame (List.mem_filterMap.mpr ⟨e, List.mem_cons_of_mem _ he, q⟩)
    -- the object is new since the entry
    have fresh : sB.heap.get? a = none := by
      cases e : sB.heap.get? a with
      | none => rfl
      | some o =>
        have inB := ground a o e (by rw [stk]; exact noFrame)
        rw [fly1.2.1] at inB
        cases inB
    have old : a ∈ X.ex ∨ X.s_0.heap.get? a = none := by
      by_cases ex : a ∈ X.ex
      · exact .inl ex
      · right
        cases e : X.s_0.heap.get? a with
        | none => rfl
        | some o =>
          obtain ⟨o2, e2⟩ := J.base.there a o e ex
          rw [fresh] at e2
          cases e2
    have J1 : Inv X pins τ G { t0 with heap := g1 } := J.landed ground fly1.1 (up0.trans up1) os bare
    have inner := J1.suite at_1 d1 na nL nF
    refine wpAny_handleBy_cons (codeAny_handlers_test ?_) (by intro q; cases q)
    have kind : PySem.W.Looks (model X.prog X.w) g1 (typeOf (.ref a)) cls := fun _ _ _ _ k q => wpAny_typeOf_ref (k _ _ at_1) (by rw [z1.1]; exact q)
    have match_ := PySem.W.exm_one (M := model X.prog X.w) J1.kIn kind eHit
    have named : ∀ {R : Value → Shared → Prop} {E : Value → Shared → Prop}, R c { t0 with heap := g1 } → wpAny (model X.prog X.w) (X.A.mark (some (.ref a))) (eval (.Name x p1) X.env) R E { t0 with heap := g1 } := fun {R E} r => by
      obtain ⟨u1, u2, u3 | ⟨u3, u4, u5⟩⟩ := nm
      · exact ld_glob (X := X.suite a ((a, ob1) :: (X.pn ++ pins))) inner u1 u3 r u2
      · exact ld_blt (X := X.suite a ((a, ob1) :: (X.pn ++ pins))) inner u1 u3 u4 r u5 u2
    refine named (match_.here ?_)
    have noPin : ∀ p ∈ X.pn ++ pins, p.1 ≠ a := fun p hp z => by
      have q := (J.pin p hp).1
      rw [z, fresh] at q
      cases q
    have noCell : ∀ z c, X.env.cells.lookup z = some c → c ≠ a := fun z c e q => by
      obtain ⟨v, o, e1, _⟩ := J.cell z c e
      rw [q, fresh] at e1
      cases e1
    cases hit with
    | true =>
      refine codeAny_handlers_suite_as ?_
      refine HandSPX.lands_againZ fly1 fun g2 fly2 up2 => ?_
      obtain ⟨ob2, fs2, at_2, z2, d2⟩ := fly2.there
      have J2 : Inv X pins τ G { t0 with heap := g2 } := J.landed ground fly2.1 ((up0.trans up1).trans up2) os bare
      have within := J2.suite at_2 d2 na nL nF
      refine store_ok (X := X.suite a ((a, ob2) :: (X.pn ++ pins))) (v := .ref a) within nd sl place rfl (fun t3 J3 => ?_) (.inr kn)
      refine wpAny_mono ((hsuite a ob2 cls d (X.pn ++ pins) z2 ⟨_, d2⟩).run [] t3 _ G _ J3 (yes rfl a na)) (fun f t4 sp => ?_) (fun _ _ z => False.elim z)
      have leave : ∀ {τ4 : L2.St} {G4 : Hp} {R : Shared → Prop}, Inv (X.suite a ((a, ob2) :: (X.pn ++ pins))) [] τ4 G4 t4 → (∀ t5, Inv (X.suite a ((a, ob2) :: (X.pn ++ pins))) [] (τ4.set i none) G4 t5 → R t5) →
          wpAny (model X.prog X.w) X.A (do bindName X.env n .none; unbindBehindTheSuite X.env n p2) (fun _ t5 => R t5) X.xe t4 := fun {τ4 G4 R} J4 r =>
        gone_ok (X := X.suite a ((a, ob2) :: (X.pn ++ pins))) J4 nd sl kn r
      cases f with
      | next =>
        obtain ⟨τ4, G4, J4, more⟩ := sp
        refine leave J4 fun t5 J5 => ?_
        obtain ⟨k1, k2, _⟩ := J5.pin (a, ob2) (List.mem_append_left _ List.mem_cons_self)
        have J6 := J5.unsuite fine
        exact ⟨_, _, Inv.track J6 k2 old nL noCell noPin (exK_ok k1 z2 d2), more⟩
      | brk =>
        obtain ⟨τ4, G4, J4, more⟩ := sp
        exact leave J4 fun t5 J5 => ⟨_, _, J5.unsuite fine, more⟩
      | cont =>
        obtain ⟨τ4, G4, J4, more⟩ := sp
        exact leave J4 fun t5 J5 => ⟨_, _, J5.unsuite fine, more⟩
      | ret u =>
        obtain ⟨v, τ4, G4, J4, rel, more⟩ := sp
        exact leave J4 fun t5 J5 => ⟨_, _, _, J5.unsuite fine, rel, more⟩
    | false =>
      show wpAny _ X.A (handleBy (.ref a) X.env []) _ _ _
      refine wpAny_handleBy_nil ?_
      obtain ⟨_, _, _, o3, v3, T3, l3, w3, in3, z3, data3, slot3, _⟩ := id fly1
      unfold PySem.passOn
      refine wpAny_bind (wpAny_field in3 data3 slot3 ?_)
      have ref3 : ¬ ((Value.ref T3 == Value.none) = true) := by simp
      rw [if_neg ref3]
      have throw3 : wpAny (model X.prog X.w) X.A (setFlight (.ref a) X.env.frame) (fun _ t4 => wpAny (model X.prog X.w) X.A (throw (.ref a) : Sem Flow) (SP X pins D) X.xe t4) X.xe { t0 with heap := g1 } := by
        rw [frm]
        refine HandSPX.setFlight_upZ fly1 fun g2 held2 up2 => wpAny_throw (out _ _ ?_)
        have sky2 : Sky B X.stack a (Zc cls d) X.env.locals g2 := .inr (.inr (by rw [stk]; exact held2))
        exact ⟨a, B, sB, pins, τ, G, cls, d, rfl, J, ground, (up0.trans up1).trans up2, sky2, na, os, bare, no rfl⟩
      first
        | exact wpAny_bind throw3
        | exact wpAny_bind (wpAny_pure (wpAny_bind throw3))
  in #guard_msgs (pass all) in example : True := trivial
end
/-- what the written part says of a class whose objects are caught -/
structure ExcFacts (K : PySem.W.Frag) (C : Addr) : Prop where
  cl : (PySem.W.clsIn K C).isSome = true
  ga : PySem.W.findIn K (.ref C) "__getattribute__" = some (some (.builtin "BaseException.__getattribute__"))
  gg : PySem.W.findIn K (.ref C) "__getattr__" = some none
  sub : PySem.W.subIn K (.ref C) (.type "BaseException") = some true
  cls : PySem.W.findIn K (.ref C) "__class__" = some (some (.builtin "object.__class__"))
  get : PySem.W.specialIn K (.builtin "object.__class__") "__get__" = some (some (.builtin "getset_descriptor.__get__"))
  tak : PySem.W.takesIn K (.builtin "object.__class__") = some true
  obj : PySem.W.mroIn K C (.type "object") = some true
  dic : PySem.W.hasDictIn K C = true
  fld : PySem.W.findIn K (.ref C) "what" = some none
set_option Elab.async true in
/-- which classes an exception's class stands under, by what the written part says of both -/
theorem kit_own {K : PySem.W.Frag} {C D : Addr} {b : Bool} (h1 : PySem.W.isClsIn K D = true) (h2 : PySem.W.typeIn K (.ref D) = some (.type "type")) (h3 : PySem.W.subIn K (.ref C) (.ref D) = some b) (h4 : PySem.W.subIn K (.ref C) (.ref C) = some true) : PySem.W.kitOne K (.ref C) (.ref D) = some b := by
  unfold PySem.W.kitOne
  by_cases e : (Value.ref C == Value.ref D) = true
  · rw [if_pos e]
    have e2 : Value.ref C = Value.ref D := eq_of_beq e
    rw [← e2, h4] at h3
    exact h3
  · rw [if_neg e]
    show (if ((PySem.W.clsIn K D).isSome && PySem.W.typeIn K (.ref D) == some (.type "type")) = true then PySem.W.subIn K (.ref C) (.ref D) else none) = some b
    have h1' : (PySem.W.clsIn K D).isSome = true := h1
    have e1 : ((PySem.W.clsIn K D).isSome && PySem.W.typeIn K (.ref D) == some (.type "type")) = true := by rw [h1', h2] <;> rfl
    rw [if_pos e1]
    exact h3
  in #guard_msgs (pass all) in example : True := trivial
set_option Elab.async true in
theorem kit_ve {K : PySem.W.Frag} {C : Addr} (h : PySem.W.subIn K (.ref C) (.type "ValueError") = some true) : PySem.W.kitOne K (.ref C) (.type "ValueError") = some true := by
  unfold PySem.W.kitOne
  rw [if_neg (by intro z; exact absurd (eq_of_beq z) (by intro y; cases y))]
  show (if PySem.W.kitMeta "ValueError" = true then PySem.W.subIn K (.ref C) (.type "ValueError") else none) = some true
  rw [if_pos (by decide +kernel)]
  exact h
  in #guard_msgs (pass all) in example : True := trivial
set_option Elab.async true in
theorem exm_own {K : PySem.W.Frag} {C D : Addr} {b : Bool} (h0 : PySem.W.subIn K (.ref D) (.type "BaseException") = some true) (h1 : PySem.W.isClsIn K D = true) (h2 : PySem.W.typeIn K (.ref D) = some (.type "type")) (h3 : PySem.W.subIn K (.ref C) (.ref D) = some b) : PySem.W.exmOne K (.ref C) (.ref D) = some b := by
  unfold PySem.W.exmOne
  have e0 : (PySem.W.subIn K (.ref D) (.type "BaseException") == some true) = true := by rw [h0] <;> rfl
  rw [if_pos e0]
  show (if ((PySem.W.clsIn K D).isSome && PySem.W.typeIn K (.ref D) == some (.type "type")) = true then PySem.W.subIn K (.ref C) (.ref D) else none) = some b
  have h1' : (PySem.W.clsIn K D).isSome = true := h1
  have e1 : ((PySem.W.clsIn K D).isSome && PySem.W.typeIn K (.ref D) == some (.type "type")) = true := by rw [h1', h2] <;> rfl
  rw [if_pos e1]
  exact h3
  in #guard_msgs (pass all) in example : True := trivial
/-- what an exception's own dict has: its class's name, what it was made with -/
def wh (nm : Str) (v : V) : List (Str × V) := [(("word" : Str), .str nm), (("what" : Str), v)]
/-- a caught one at a, its dict at d: the field what is v -/
structure Kept (K : PySem.W.Frag) (H : Hp) (a C d : Addr) (v : V) : Prop where
  F : ExcFacts K C
  ob : H a = some (ExK (.ref C) (some d) a)
  di : ∃ nm : Str, H d = some (.xd (wh nm v))
set_option Elab.async true in
theorem Kept.same {K : PySem.W.Frag} {H G : Hp} {a C d : Addr} {v : V} (k : Kept K H a C d v) (s : Same H G) : Kept K G a C d v := ⟨k.F, s _ _ k.ob, k.di.imp fun _ e => s _ _ e⟩
  in #guard_msgs (pass all) in example : True := trivial
section
variable {X : Cx} {pins : List (Addr × Obj)} {σ : L2.St} {H : Hp} {s : Shared}
set_option Elab.async true in
theorem Kept.inst {a C d : Addr} {v : V} (k : Kept X.K H a C d v) (I : Inv X pins σ H s) : ∃ (nm : Str) (ob od : Obj) (m : Str → Option Value), PySem.W.InstAt s.heap a ob C (some od) ∧ s.heap.Ns1 d m ∧ s.heap.get? d = some od ∧ (∀ f, RelO (List.lookup f (wh nm v)) (m f)) := by
  obtain ⟨nm, kdi⟩ := k.di
  obtain ⟨⟨ob, fs, e, z, da⟩, _⟩ := (show ObjOk X.prog X.w H s.heap a (ExK (.ref C) (some d) a) from I.hok a _ k.ob)
  obtain ⟨m, ns, r⟩ := (show ObjOk X.prog X.w H s.heap d (.xd (wh nm v)) from I.hok d _ kdi)
  obtain ⟨od, ho, _⟩ := lookIn_ns ns
  exact ⟨nm, ob, od, m, ⟨e, z.1, by unfold PySem.W.notCls; rw [da] <;> rfl, by rw [z.2]; exact ho⟩, ns, ho, r⟩
  in #guard_msgs (pass all) in example : True := trivial
end
/-- isinstance of a kept one: a class, a tuple of classes -/
def rIsX (K : PySem.W.Frag) : List V → Hp → VK → Prop := fun xs H Q => ∃ (a C d : Addr) (v k : V) (u : Value) (b : Bool), xs = [.ref a, k] ∧ Kept K H a C d v ∧ ClsV k u ∧ PySem.W.kitOne K (.ref C) u = some b ∧ Q (.bl b) H
def rIsXT (K : PySem.W.Frag) : List V → Hp → VK → Prop := fun xs H Q => ∃ (a C d tp : Addr) (v : V) (ks : List V) (us : List Value) (b : Bool), xs = [.ref a, .ref tp] ∧ Kept K H a C d v ∧ H tp = some (.tup ks) ∧ Paired ClsV ks us ∧ PySem.W.kitAny K (.ref C) us = some b ∧ Q (.bl b) H
section
variable {X : Cx} {K : PySem.W.Frag}
set_option Elab.async true in
theorem isX (hK : X.K = K) : CallR X (.builtin "isinstance") (rIsX K) := by
  subst hK
  intro pins s σ H xs us Q I rel ⟨a, C, d, v, k, u, b, e, kp, kc, ko, q⟩
  subst e
  obtain ⟨w1, w2, e2, r1, r2⟩ := vals2 rel
  subst e2
  obtain rfl : w1 = Value.ref a := r1
  obtain rfl := kc.eq r2
  obtain ⟨nm, ob, od, m, inst, _⟩ := kp.inst I
  have kit := PySem.W.kitx_exc (x := a) (ox := ob) (od := some od) kp.F.cl kp.F.ga kp.F.gg kp.F.sub kp.F.cls kp.F.get kp.F.tak kp.F.obj
  exact PySem.W.kia_one kit I.kIn inst ko (fun z => nomatch z) fun tk => ⟨.bl b, H, I.tok tk, rfl, q⟩
  in #guard_msgs (pass all) in example : True := trivial
set_option Elab.async true in
theorem isXT (hK : X.K = K) : CallR X (.builtin "isinstance") (rIsXT K) := by
  subst hK
  intro pins s σ H xs us Q I rel ⟨a, C, d, tp, v, ks, cs, b, e, kp, ht, kc, ko, q⟩
  subst e
  obtain ⟨w1, w2, e2, r1, r2⟩ := vals2 rel
  subst e2
  obtain rfl : w1 = Value.ref a := r1
  obtain rfl : w2 = Value.ref tp := r2
  obtain ⟨nm, ob, od, m, inst, _⟩ := kp.inst I
  have kit := PySem.W.kitx_exc (x := a) (ox := ob) (od := some od) kp.F.cl kp.F.ga kp.F.gg kp.F.sub kp.F.cls kp.F.get kp.F.tak kp.F.obj
  obtain ⟨_, items, rv, o, at_o, c_o, len_o, data_o⟩ := (show ObjOk X.prog X.w H s.heap tp (.tup ks) from I.hok tp _ ht)
  obtain rfl := ClsV.all kc rv
  obtain ⟨oc, odict, odata, oslots⟩ := o
  simp only at c_o data_o
  subst c_o data_o
  exact PySem.W.kia_tup kit I.kIn inst at_o ko (fun z => nomatch z) fun tk => ⟨.bl b, H, I.tok tk, rfl, q⟩
  in #guard_msgs (pass all) in example : True := trivial
/-- caught.what -/
def tWhat (K : PySem.W.Frag) (te : TE) : TE := fun σ H Q => te σ H fun x G => ∃ (a C d : Addr) (v : V), x = .ref a ∧ Kept K G a C d v ∧ Q v G
set_option Elab.async true in
theorem pe_what {e : Expr} {te : TE} {pos : Pos} (hK : X.K = K) (he : PE X e te) (hb : attributeBase e "what" X.env (eval e X.env) = eval e X.env := by rfl) : PE X (.Attribute e "what" pos) (tWhat K te) := by
  subst hK
  constructor
  intro pins s σ H Q I ask
  refine attr_of hb (thn (he.run pins s σ H _ I ask) fun u t1 got => ?_)
  obtain ⟨x, G, J, rel, a, C, d, v, e1, kp, q⟩ := got
  subst e1
  obtain rfl : u = Value.ref a := rel
  obtain ⟨nm, ob, od, m, inst, ns, at_d, fs⟩ := kp.inst J
  obtain ⟨od2, at_d2, look⟩ := lookIn_ns ns
  rw [at_d] at at_d2
  obtain rfl := Option.some.inj at_d2
  have l1 : List.lookup ("what" : Str) (wh nm v) = some v := rfl
  obtain ⟨w, hw, rw_⟩ := RelO.some_of (v := v) (o := m "what") (by rw [← l1]; exact fs "what")
  have found := PySem.W.findObj_own (K := X.K) (C := C) (od := od) kp.F.dic kp.F.fld rfl (by rw [look, hw])
  exact HandSPX.exc_get J.kIn inst kp.F.ga kp.F.gg kp.F.sub found (handed_of rw_) ⟨v, G, J.tok _, rw_, q⟩
  in #guard_msgs (pass all) in example : True := trivial
end
end KR
/-! ### the name of its class, which an exception keeps: self.word = self.__class__.__name__ -/
namespace PySem.W
open PySem PySem.Calls PySem.Spec PyProof.Rows Builtin Builtin.Getset_descriptor
section
variable {pg : Program} {wd : World} {Ar : Around} {Ex : Value → Shared → Prop} {sh : Shared} {Fg : Frag} {Rr : Result → Shared → Prop} {Cl z : Addr} {oz : Obj} {oy : Option Obj}
set_option Elab.async true in
theorem own_dga (dv tv : Value) (b : Addr) : descrGetArgs ⟨[dv, .ref b, tv], []⟩ = pure (dv, some (.ref b), given tv) := by kernel_rfl
  in #guard_msgs (pass all) in example : True := trivial
set_option Elab.async true in
theorem own_name_get {tv : Value} {oc : Obj} {nm : Str} {tk : Tok} (at_C : sh.heap.get? Cl = some oc) (ty : oc.cls = .type "type") (sl : (oc.slots[2]?).join = some (.str nm tk)) (want : Rr (.ok (.ret (.str nm tk))) sh) :
    codeAny (model pg wd) Ar (.call (.builtin "getset_descriptor.__get__") ⟨[.builtin "type.__name__", .ref Cl, tv], []⟩) Rr sh := by
  obtain ⟨hh, g, dr, t, os⟩ := sh
  have K0 : Looks (model pg wd) hh (typeOf (.ref Cl)) (.type "type") := fun _ _ _ _ keep q => wpAny_typeOf_ref (keep _ _ at_C) (by rw [ty]; exact q)
  have K1 : Looks (model pg wd) hh (isSubtype (.type "type") (.type "type")) true := .of_pure (by rw [isSubtype_type] <;> kernel_rfl)
  refine codeAny_call_builtin KF.slot_gs.plain KF.entry_gs <| KF.slot_gs.check _ _ _ _ _ _ _ _ ktyn_type (KF.args_gs _ _ _) ?_
  unfold Builtin.«getset_descriptor.__get__» descrGet; rw [own_dga]; refine wpAny_bind <| wpAny_pure ?_
  unfold descrGetter descrCheckInstance descrNameAndClass isInstance; simp only [ktyn_owner]
  repeat lk
  refine ⟨Code.quiet_builtin _ (by decide +kernel), codeAny_builtin ktyn_entry ?_⟩
  unfold Builtin.«type.__name__»; dsimp only
  unfold keptObject slotAt; dsimp only
  refine wpAny_bind (wpAny_bind (wpAny_loadPart_at at_C (wpAny_pure ?_)))
  rw [sl]; dsimp only
  first
    | exact wpAny_pure want
    | exact wpAny_bind (wpAny_pure want)
    | exact wpAny_bind (wpAny_pure (wpAny_pure want))
  in #guard_msgs (pass all) in example : True := trivial
set_option Elab.async true in
theorem own_name {expr : Bool} {Q : Value → Shared → Prop} {oc : Obj} {nm : Str} {tk : Tok} (X : Fg.In sh.heap) (rd : readsIn Fg Cl (.type "type") = true) (fc : findCls Fg (.ref Cl) (.type "type") "__name__" = some (.get (.builtin "getset_descriptor.__get__") (.builtin "type.__name__") (.ref Cl) (.type "type")))
    (lk : Fg.lookup Cl = some oc) (ty : oc.cls = .type "type") (sl : (oc.slots[2]?).join = some (.str nm tk)) (want : ∀ u, Q (.str nm tk) { sh with toks := u }) : wpAny (model pg wd) Ar (getAttr (.ref Cl) "__name__" expr) Q Ex sh := by
  refine cls_read X rd fc ?_
  show wpAny _ _ (holding [Value.builtin "type.__name__"] (call (.builtin "getset_descriptor.__get__") [.builtin "type.__name__", .ref Cl, .type "type"]) >>= ret) _ _ _
  refine wpAny_bind <| wpAny_holding <| wpAny_call <| own_name_get (sh := { sh with toks := sh.toks + 1 }) (X _ _ lk) ty sl ?_
  exact wpAny_pure (handed_on rfl (want _))
  in #guard_msgs (pass all) in example : True := trivial
set_option Elab.async true in
theorem own_class {expr : Bool} {Q : Value → Shared → Prop} (X : Fg.In sh.heap) (I : InstAt sh.heap z oz Cl oy) (c1 : findIn Fg (.ref Cl) "__getattribute__" = some (some (.builtin "BaseException.__getattribute__"))) (c2 : findIn Fg (.ref Cl) "__getattr__" = some none)
    (c3 : subIn Fg (.ref Cl) (.type "BaseException") = some true) (c4 : (clsIn Fg Cl).isSome = true) (c5 : findIn Fg (.ref Cl) "__class__" = some (some (.builtin "object.__class__"))) (c6 : specialIn Fg (.builtin "object.__class__") "__get__" = some (some (.builtin "getset_descriptor.__get__")))
    (c7 : takesIn Fg (.builtin "object.__class__") = some true) (c8 : mroIn Fg Cl (.type "object") = some true) (want : ∀ u, Q (.ref Cl) { sh with toks := u }) : wpAny (model pg wd) Ar (getAttr (.ref z) "__class__" expr) Q Ex sh := by
  have fo : findObj Fg Cl oy "__class__" = some (.bind (.builtin "getset_descriptor.__get__") (.builtin "object.__class__")) := by
    cases oy with
    | none => exact findObj_dataN c4 c5 c6 c7
    | some ob => exact findObj_data c4 c5 c6 c7
  obtain ⟨hh, g, dr, t, os⟩ := sh
  have K0 := I.type (M := model pg wd)
  have K1 := looks_findIn (M := model pg wd) X c1
  have K2 := looks_findIn (M := model pg wd) X c2
  have K3 := looks_find (M := model pg wd) X I fo
  have below : Looks (model pg wd) hh (isInstance (.ref z) (.type "BaseException")) true := K0.andThen (looks_subIn X c3)
  have n0 : (expr && onTheHeap (Value.builtin "BaseException.__getattribute__")) = false := by cases expr <;> rfl
  have n1 : (Value.builtin "BaseException.__getattribute__" == Value.builtin "object.__getattribute__") = false := by decide +kernel
  have n2 : (onTheHeap (Value.ref Cl) && Value.builtin "BaseException.__getattribute__" == Value.builtin "object.__getattribute__") = false := by rw [n1] <;> rfl
  unfold getAttr getAttrBy
  refine wpAny_bind <| wpAny_mkText <| wpAny_holding <| wpAny_bind <| K0.at <| wpAny_bind <| K1.at ?_
  show wpAny _ _ (ite ((onTheHeap (Value.ref Cl) && Value.builtin "BaseException.__getattribute__" == Value.builtin "object.__getattribute__") = true) _ _) _ _ _
  rw [n2, if_neg Bool.false_ne_true]; unfold getAttrByItsOwn hookBefore; refine wpAny_bind ?_
  rw [if_pos (show onTheHeap (Value.ref Cl) = true from rfl)]; refine K2.at ?_; refine wpAny_bind <| wpAny_attempt <| wpAny_holding ?_
  unfold callGetattribute; rw [n0, if_neg Bool.false_ne_true]; unfold boundAndCalled; rw [PySem.F.excAttr_ValueError.ga.bind (.ref z)]; refine wpAny_bind <| wpAny_pure ?_
  show wpAny _ _ (call (.builtin "BaseException.__getattribute__") [.ref z, .str "__class__" t]) _ _ _
  refine wpAny_call <| codeAny_call_builtin PySem.F.excAttr_ValueError.ga.plain PySem.F.entry_bexc_ga ?_
  refine @check_slot (model pg wd) _ _ ⟨hh, g, dr, t + 1, os⟩ "BaseException.__getattribute__" "BaseException" "__getattribute__" (.ref z) [.str "__class__" t] [] _ (by decide +kernel) (by decide +kernel) below (PySem.F.args_bexc_ga (.ref z) (.str "__class__" t)) ?_
  unfold Builtin.«object.__getattribute__»; refine wpAny_bind <| wpAny_of_eq (a := ((Value.ref z : Value), [Value.str "__class__" t])) (by first | rfl | (simp only [slotArgs]; rfl)) ?_
  refine wpAny_bind <| wpAny_pure <| wpAny_bind <| K0.at <| wpAny_bind <| K3.at ?_
  show wpAny _ _ (holding [Value.builtin "object.__class__"] (call (.builtin "getset_descriptor.__get__") [.builtin "object.__class__", .ref z, .ref Cl]) >>= ret) _ _ _
  refine wpAny_bind <| wpAny_holding <| wpAny_call <| class_get (s := ⟨hh, g, dr, t + 1, os⟩) (ox := oz) (od := oy) X I c8 ?_
  refine wpAny_pure ?_
  show wpAny _ _ (handedOut (.ref Cl)) _ _ _
  rw [handedOut_of (v := .ref Cl) rfl]
  first
    | exact wpAny_pure (want _)
    | exact wpAny_pure (wpAny_pure (want _))
  in #guard_msgs (pass all) in example : True := trivial
end
end PySem.W
namespace KR
open PySem PySem.Spec PyProof.Rows L2
/-- a class whose own name, kept since it was made, is nm -/
structure NmC (K : PySem.W.Frag) (C : Addr) (nm : Str) : Prop where
  ro : ∃ (oc : Obj) (tk : Tok), K.lookup C = some oc ∧ oc.cls = .type "type" ∧ (oc.slots[2]?).join = some (.str nm tk)
  rd : PySem.W.readsIn K C (.type "type") = true
  fw : PySem.W.findIn K (.ref C) "word" = some none
  fc : PySem.W.findCls K (.ref C) (.type "type") "__name__" = some (.get (.builtin "getset_descriptor.__get__") (.builtin "type.__name__") (.ref C) (.type "type"))
/-- self.__class__.__name__ of one that is being made -/
def tCnm (K : PySem.W.Frag) (to : TE) : TE := fun σ H Q => to σ H fun x H1 => ∃ (a C d : Addr) (fs : List (Str × V)) (nm : Str), x = .ref a ∧ ExcFacts K C ∧ NmC K C nm ∧ H1 a = some (exo a C (some d)) ∧ H1 d = some (exd d fs) ∧ Q (.str nm) H1
set_option Elab.async true in
theorem pe_cnm {X : Cx} {o : Expr} {to : TE} {p1 p2 : Pos} (ho : PE X o to) (h1 : attributeBase o "__class__" X.env (eval o X.env) = eval o X.env := by rfl)
    (h2 : attributeBase (.Attribute o "__class__" p1) "__name__" X.env (eval (.Attribute o "__class__" p1) X.env) = eval (.Attribute o "__class__" p1) X.env := by rfl) : PE X (.Attribute (.Attribute o "__class__" p1) "__name__" p2) (tCnm X.K to) := by
  refine ⟨fun pins s σ H Q I ask => ?_⟩
  refine attr_of h2 (attr_of h1 (thn (ho.run pins s σ H _ I ask) fun u s1 got => ?_))
  obtain ⟨x, H1, J, rel, a, C, d, fs, nm, e1, F, N, ha, hd, q⟩ := got
  subst e1
  obtain rfl : u = Value.ref a := rel
  obtain ⟨t1, at_a⟩ := exo_at J.hok ha
  obtain ⟨mA, ns, _⟩ := exd_at J.hok hd
  obtain ⟨od, at_d, _⟩ := lookIn_ns ns
  obtain ⟨oc, tk, lk, ty, sl⟩ := N.ro
  refine PySem.W.own_class J.kIn (oy := some od) ⟨at_a, rfl, rfl, at_d⟩ F.ga F.gg F.sub F.cl F.cls F.get F.tak F.obj fun u1 => ?_
  exact PySem.W.own_name (J.tok u1).kIn N.rd N.fc lk ty sl fun u2 => ⟨.str nm, H1, J.tok u2, ⟨tk, rfl⟩, q⟩
  in #guard_msgs (pass all) in example : True := trivial
set_option Elab.async true in
/-- the dict of one that is being made, told twice -/
theorem upd_twice {H : Hp} {a d : Addr} {o1 o2 o3 : HO} (ne : d ≠ a) : upd (upd (upd H d o1) a o2) d o3 = upd (upd H d o3) a o2 := by
  funext b
  by_cases e1 : b = a
  · subst e1
    rw [upd_ne (Ne.symm ne), upd_same, upd_same]
  · by_cases e2 : b = d
    · subst e2
      rw [upd_same, upd_ne e1, upd_same]
    · rw [upd_ne e2, upd_ne e1, upd_ne e2, upd_ne e1, upd_ne e2]
  in #guard_msgs (pass all) in example : True := trivial
set_option Elab.async true in
/-- self.what = what; self.word = self.__class__.__name__ -/
theorem init_reads {K : PySem.W.Frag} {C a : Addr} {nm : Str} {v : V} {H : Hp} {D : Ends} (O : OexC K C) (F : ExcFacts K C) (N : NmC K C nm) (ha : H a = some (exo a C none)) (q : ∀ dx, H dx = none → dx ≠ a → D.nx [some (.ref a), some v] (upd (upd H dx (exd dx (wh nm v))) a (exo a C (some dx)))) :
    tSeq (tOst K "what" (tVar 0) (tVar 1)) (tOst K "word" (tVar 0) (tCnm K (tVar 0))) D [some (.ref a), some v] H := by
  refine ⟨_, rfl, _, rfl, a, C, rfl, O, F.fld, .inl ⟨ha, fun dx h1 h2 => ?_⟩⟩
  have e1 : (upd (upd H dx (exd dx [(("what" : Str), v)])) a (exo a C (some dx))) dx = some (exd dx [(("what" : Str), v)]) := by rw [upd_ne h2, upd_same]
  refine ⟨_, rfl, a, C, dx, _, nm, rfl, F, N, upd_same, e1, _, rfl, a, C, rfl, O, N.fw, .inr ⟨dx, _, upd_same, e1, by show 1 ≤ 900; decide, ?_⟩⟩
  rw [upd_twice h2]
  exact q dx h1 h2
  in #guard_msgs (pass all) in example : True := trivial
end KR
/-! ### an instance that is made, where its own __init__ may raise -/
namespace KR
open PySem PySem.Spec PyProof.Rows L2
set_option Elab.async true in
theorem passX0 {X : Cx} : Passes (L2.CX X.prog X.w) X E0 := fun pins σ H s1 e s' I z => by
  obtain ⟨a, B, H', cls, d, _, _, _, _, _, _, _, q⟩ := z
  exact q.elim
  in #guard_msgs (pass all) in example : True := trivial
section
variable {X : Cx} {CX : CXT} {n : Nat} {fI cl : Addr} {fd : FuncData} {names : List Str} {sp : Sp} {E : L2.St → XK} {x : Str} {p pos : Pos} {e : Expr} {es : List Expr} {t : TA}
/-- what is left to be shown of it: __init__ with the new instance ahead -/
def tMakeS (cl : Addr) (sp : Sp) (E : L2.St → XK) (t : TA) : TE := fun σ H Q => t σ H fun vs G => ∀ a da, G a = none → G da = none → da ≠ a → sp (.ref a :: vs) (upd (upd G da (.own a)) a (.ins cl da [])) (fun u J => u = .non ∧ Q (.ref a) J) (E σ)
end
set_option Elab.async true in
/-- behind a raise all is as it was, beside it the new one's own dict -/
theorem raised_keeps {G : Hp} {a d : Addr} {o1 o2 o3 o4 : HO} (na : G a = none) (ndd : G d = none) : Same G (upd (del (upd (upd (upd G a o1) d o2) a o3) a) d o4) := fun b o e => by
  have ba := ne_of_none e na
  have bd := ne_of_none e ndd
  rw [upd_ne bd, del_ne ba, upd_ne ba, upd_ne bd, upd_ne ba]
  exact e
  in #guard_msgs (pass all) in example : True := trivial
/-- how a refusal is made: its field what is what it is made with, its field word its class's name -/
def sp_initX (C : Addr) (nm : Str) : Sp := fun vs H Q _ => ∃ (a : Addr) (v : V), vs = [.ref a, v] ∧ H a = some (exo a C none) ∧ ∀ dx, H dx = none → dx ≠ a → Q .non (upd (upd H dx (exd dx (wh nm v))) a (exo a C (some dx)))
end KR
/-! ### objects that change: frames, dicts by their keys, rules -/
namespace KR
open PySem PySem.Spec PyProof.Rows L2
/-- all but the region R is as it was; what is a tuple or a table stays one -/
structure Off (K : PySem.W.Frag) (R : Addr → Prop) (H H' : Hp) : Prop where
  keep : ∀ b o, ¬ R b → H b = some o → (∀ q, o ≠ .tbl q) → H' b = some o
  tab : ∀ b, GxR.TabG H b → GxR.TabG H' b
  tk : TK K H H'
section
variable {K : PySem.W.Frag} {R R2 : Addr → Prop} {H H' H1 H2 : Hp} {p : Addr} {o o2 : HO}
/-- a thing that may change: no tuple, no table, not locked -/
structure Chg (o : HO) : Prop where
  t : ∀ xs, o ≠ .tup xs
  f : ∀ b y, o ≠ .frz b y
  b : ∀ q, o ≠ .tbl q
set_option Elab.async true in
theorem Chg.lst {xs : List V} : Chg (.lst xs) := ⟨fun _ z => (by cases z), fun _ _ z => (by cases z), fun _ z => (by cases z)⟩
  in #guard_msgs (pass all) in example : True := trivial
set_option Elab.async true in
theorem Chg.dK {xs : List (Key × V)} : Chg (.dK xs) := ⟨fun _ z => (by cases z), fun _ _ z => (by cases z), fun _ z => (by cases z)⟩
  in #guard_msgs (pass all) in example : True := trivial
set_option Elab.async true in
theorem Chg.ins {C dx : Addr} {xs : List (Str × V)} : Chg (.ins C dx xs) := ⟨fun _ z => (by cases z), fun _ _ z => (by cases z), fun _ z => (by cases z)⟩
  in #guard_msgs (pass all) in example : True := trivial
theorem Off.refl : Off K R H H := ⟨fun _ _ _ h _ => h, fun _ h => h, .refl⟩
theorem Off.sm (s : Sm H H') : Off K R H H' := ⟨fun b o _ h n => s.keep b o h n, s.tab, .sm s⟩
theorem Off.same (s : Same H H') : Off K R H H' := .sm (.of s)
set_option Elab.async true in
theorem Off.mono (h : Off K R H H') (k : ∀ a, R a → R2 a) : Off K R2 H H' := ⟨fun b o n => h.keep b o fun z => n (k b z), h.tab, h.tk⟩
  in #guard_msgs (pass all) in example : True := trivial
/-- nothing stands there, a table at most -/
def Nw (H : Hp) (a : Addr) : Prop := ∀ o, H a = some o → ∃ q, o = .tbl q
theorem Nw.of {a : Addr} (h : H a = none) : Nw H a := fun o e => by rw [h] at e; cases e
theorem Nw.no {a : Addr} (h : Nw H a) (e : H a = some o) (c : Chg o) : False := (h o e).elim fun q z => c.b q z
theorem Nw.ne {a b : Addr} (h : Nw H a) (e : H b = some o) (c : Chg o) : a ≠ b := fun z => h.no (z ▸ e) c
set_option Elab.async true in
theorem Nw.back {a : Addr} (h : Off K R H H') (n : ¬ R a) (k : Nw H' a) : Nw H a := fun o e => Classical.byContradiction fun c => c (k o (h.keep a o n e fun q z => c ⟨q, z⟩))
  in #guard_msgs (pass all) in example : True := trivial
set_option Elab.async true in
theorem Off.trans (h : Off K R H H1) (k : Off K R2 H1 H2) (e : ∀ a, R2 a → R a ∨ Nw H a) : Off K R H H2 :=
  ⟨fun b o n a t => k.keep b o (fun z => (e b z).elim n fun y => (y o a).elim t) (h.keep b o n a t) t, fun b a => k.tab b (h.tab b a), h.tk.trans k.tk⟩
  in #guard_msgs (pass all) in example : True := trivial
theorem Off.seq (h : Off K R H H1) (k : Off K R H1 H2) : Off K R H H2 := h.trans k fun _ => .inl
set_option Elab.async true in
theorem Off.put (h : H p = some o) (c : Chg o) (r : R p) : Off K R H (upd H p o2) :=
  ⟨fun b u n e _ => by rw [upd_ne (fun z => n (by rw [z]; exact r))]; exact e, fun b ⟨q, e, t⟩ => ⟨q, by rw [upd_ne (fun z => by rw [z, h] at e; exact c.b q (Option.some.inj e))]; exact e, t⟩, .upd h c.t c.f⟩
  in #guard_msgs (pass all) in example : True := trivial
theorem Off.new (h : H p = none) : Off K R H (upd H p o2) := .same (same_new h)
set_option Elab.async true in
theorem Off.fresh (h : Off K R H H1) (n : H p = none) : Off K R H (upd H1 p o2) :=
  ⟨fun b u r e t => by rw [upd_ne (ne_of_none e n)]; exact h.keep b u r e t, fun b e => by
    have ne : b ≠ p := e.elim fun q z => ne_of_none z.1 n
    obtain ⟨q, e2, t⟩ := h.tab b e
    exact ⟨q, by rw [upd_ne ne]; exact e2, t⟩, fun b xs e => by
    have k := h.tk b xs e
    rcases e with (e | ⟨ob, e⟩) | e
    · rcases k with (k | ⟨o3, k⟩) | k
      · exact .inl (.inl (by rw [upd_ne (ne_of_none e n)]; exact k))
      · exact .inl (.inr ⟨o3, by rw [upd_ne (ne_of_none e n)]; exact k⟩)
      · exact .inr k
    · rcases k with (k | ⟨o3, k⟩) | k
      · exact .inl (.inl (by rw [upd_ne (ne_of_none e n)]; exact k))
      · exact .inl (.inr ⟨o3, by rw [upd_ne (ne_of_none e n)]; exact k⟩)
      · exact .inr k
    · exact .inr e⟩
  in #guard_msgs (pass all) in example : True := trivial
set_option Elab.async true in
theorem Off.write (h : Off K R H H1) (r : R p) (e : H p = some o) (c : Chg o) : Off K R H (upd H1 p o2) :=
  ⟨fun b u n e t => by rw [upd_ne (fun z => n (by rw [z]; exact r))]; exact h.keep b u n e t, fun b k => by
    have ne : b ≠ p := k.elim fun q z y => by rw [y, e] at z; exact c.b q (Option.some.inj z.1)
    obtain ⟨q, e2, t⟩ := h.tab b k
    exact ⟨q, by rw [upd_ne ne]; exact e2, t⟩, fun b xs k => by
    have k2 := h.tk b xs k
    rcases k with (k | ⟨ob, k⟩) | k
    · have ne : b ≠ p := fun y => by rw [y, e] at k; exact c.t _ (Option.some.inj k)
      rcases k2 with (k2 | ⟨o3, k2⟩) | k2
      · exact .inl (.inl (by rw [upd_ne ne]; exact k2))
      · exact .inl (.inr ⟨o3, by rw [upd_ne ne]; exact k2⟩)
      · exact .inr k2
    · have ne : b ≠ p := fun y => by rw [y, e] at k; exact c.f _ _ (Option.some.inj k)
      rcases k2 with (k2 | ⟨o3, k2⟩) | k2
      · exact .inl (.inl (by rw [upd_ne ne]; exact k2))
      · exact .inl (.inr ⟨o3, by rw [upd_ne ne]; exact k2⟩)
      · exact .inr k2
    · exact .inr k⟩
  in #guard_msgs (pass all) in example : True := trivial
set_option Elab.async true in
theorem Off.fr {xs : List V} (h : H p = some (.lst xs)) (f : Fr p H H') : Off K (· = p) H H' :=
  ⟨fun b u n e _ => f b u n e, fun b ⟨q, e, t⟩ => ⟨q, f b _ (fun z => by rw [z, h] at e; cases e) e, t⟩, .fs (fun xs z => by rw [h] at z; cases z) (fun b y z => by rw [h] at z; cases z) (.of f)⟩
  in #guard_msgs (pass all) in example : True := trivial
set_option Elab.async true in
theorem Off.box {n : Nat} (h : BoxAt H p n) (f : Fr p H H') : Off K (· = p) H H' := by
  obtain ⟨xs, e⟩ := box_lst h
  exact .fr e f
  in #guard_msgs (pass all) in example : True := trivial
set_option Elab.async true in
theorem Off.ins (h : Off K R H H') (n : ¬ R p) {C dx : Addr} {fs : List (Str × V)} (e : H p = some (.ins C dx fs)) : H' p = some (.ins C dx fs) := h.keep p _ n e nofun
  in #guard_msgs (pass all) in example : True := trivial
set_option Elab.async true in
theorem Off.dK (h : Off K R H H') (n : ¬ R p) {kvs : List (Key × V)} (e : H p = some (.dK kvs)) : H' p = some (.dK kvs) := h.keep p _ n e nofun
  in #guard_msgs (pass all) in example : True := trivial
set_option Elab.async true in
theorem Off.lst (h : Off K R H H') (n : ¬ R p) {xs : List V} (e : H p = some (.lst xs)) : H' p = some (.lst xs) := h.keep p _ n e nofun
  in #guard_msgs (pass all) in example : True := trivial
set_option Elab.async true in
theorem Off.rd (h : Off K R H H') (n : ¬ R p) {u : HO} (e : Rd H p u) (t : ∀ q, u ≠ .tbl q) : Rd H' p u := e.imp (fun e => h.keep p _ n e t) fun ⟨o, e⟩ => ⟨o, h.keep p _ n e nofun⟩
  in #guard_msgs (pass all) in example : True := trivial
theorem Off.tbs {Ps : List Addr} (h : Off K R H H') (t : Tbs Ps H) : Tbs Ps H' := fun P hP => h.tab P (t P hP)
set_option Elab.async true in
theorem Off.boxAt {n : Nat} (h : Off K R H H') (nr : ¬ R p) (B : BoxAt H p n) : BoxAt H' p n := by
  obtain ⟨a, b, c, h1, h2⟩ := B
  exact ⟨a, b, c, h.lst nr h1, h2⟩
  in #guard_msgs (pass all) in example : True := trivial
set_option Elab.async true in
theorem Off.seqL {a : Addr} {xs : List V} (h : Off K R H H') (n : ¬ R a) (e : SqL K H a xs) : SqL K H' a xs := by
  rcases e with (e | ⟨o, e⟩) | e
  · exact .inl (.inl (h.keep _ _ n e nofun))
  · exact .inl (.inr ⟨o, h.keep _ _ n e nofun⟩)
  · exact .inr e
  in #guard_msgs (pass all) in example : True := trivial
set_option Elab.async true in
/-- behind a locked walk that left all as it was -/
theorem lock_same {d : Addr} {od : Obj} {u : HO} (h : H d = some u) (s : Same (upd H d (.frz od u)) H') : Same H (upd H' d u) := fun b o e => by
  by_cases c : b = d
  · subst c
    rw [upd_same]
    exact h.symm.trans e
  · rw [upd_ne c]
    exact s b o (by rw [upd_ne c]; exact e)
  in #guard_msgs (pass all) in example : True := trivial
set_option Elab.async true in
theorem tk_lock {d : Addr} {od : Obj} {kvs : List (Key × V)} (h : H d = some (.dK kvs)) : TK K H (upd H d (.frz od (.dK kvs))) := .upd h (fun _ z => (by cases z)) (fun _ _ z => (by cases z))
  in #guard_msgs (pass all) in example : True := trivial
set_option Elab.async true in
theorem tk_unlock {d : Addr} {od : Obj} {kvs : List (Key × V)} (h : H d = some (.frz od (.dK kvs))) : TK K H (upd H d (.dK kvs)) := fun b xs e => by
  rcases e with (e | ⟨q, e⟩) | e
  · exact .inl (.inl (by rw [upd_ne (fun z => by rw [z, h] at e; cases e)]; exact e))
  · exact .inl (.inr ⟨q, by rw [upd_ne (fun z => by rw [z, h] at e; cases e)]; exact e⟩)
  · exact .inr e
  in #guard_msgs (pass all) in example : True := trivial
end
/-! dicts by their keys -/
def set1 {α β : Type} [DecidableEq α] (f : α → β) (x : α) (v : β) : α → β := fun y => if y = x then v else f y
theorem set1_same {α β : Type} [DecidableEq α] {f : α → β} {x : α} {v : β} : set1 f x v x = v := if_pos rfl
theorem set1_ne {α β : Type} [DecidableEq α] {f : α → β} {x y : α} {v : β} (h : y ≠ x) : set1 f x v y = f y := if_neg h
def addK {α : Type} [DecidableEq α] (l : List α) (x : α) : List α := if x ∈ l then l else l ++ [x]
def byK {α : Type} (c : α → Key) (l : List α) (f : α → V) : List (Key × V) := l.map fun x => (c x, f x)
section
variable {α : Type} [DecidableEq α] {c : α → Key} {f g : α → V} {x : α} {v : V}
theorem byK_len {l : List α} : (byK c l f).length = l.length := List.length_map _
set_option Elab.async true in
theorem byN_keys {l : List Str} {f : Str → V} : (byK (Sum.inr : Str → Key) l f).map (fun kv => kV kv.1) = l.map V.str := by
  unfold byK
  rw [List.map_map]
  rfl
  in #guard_msgs (pass all) in example : True := trivial
set_option Elab.async true in
theorem byK_get {l : List α} {i : Nat} {kv : Key × V} (h : (byK c l f)[i]? = some kv) : ∃ y, l[i]? = some y ∧ kv = (c y, f y) := by
  unfold byK at h
  rw [List.getElem?_map] at h
  cases e : l[i]? with
  | none => rw [e] at h; cases h
  | some y => rw [e] at h; exact ⟨y, rfl, (Option.some.inj h).symm⟩
  in #guard_msgs (pass all) in example : True := trivial
set_option Elab.async true in
theorem byK_congr {l : List α} (h : ∀ y ∈ l, f y = g y) : byK c l f = byK c l g := List.map_congr_left fun y hy => by rw [h y hy]
  in #guard_msgs (pass all) in example : True := trivial
set_option Elab.async true in
theorem byK_val (inj : ∀ a b, c a = c b → a = b) : ∀ {l : List α}, x ∈ l → valV (byK c l f) (c x) = some (f x)
  | y :: l, h => by
    by_cases e : y = x
    · subst e
      exact valV_pos (p := (c y, f y)) rfl
    · refine (valV_neg (p := (c y, f y)) (r := byK c l f) (fun z => e (inj _ _ z))).trans (byK_val inj ?_)
      rcases List.mem_cons.mp h with z | z
      · exact absurd z.symm e
      · exact z
  in #guard_msgs (pass all) in example : True := trivial
set_option Elab.async true in
theorem byK_none (inj : ∀ a b, c a = c b → a = b) : ∀ {l : List α}, x ∉ l → valV (byK c l f) (c x) = none
  | [], _ => rfl
  | y :: l, h => (valV_neg (p := (c y, f y)) (r := byK c l f) (fun z => h (by rw [inj _ _ z]; exact List.mem_cons_self))).trans (byK_none inj fun z => h (List.mem_cons_of_mem _ z))
  in #guard_msgs (pass all) in example : True := trivial
set_option Elab.async true in
theorem byK_put (inj : ∀ a b, c a = c b → a = b) {l : List α} : putK (byK c l f) (c x) v = byK c (addK l x) (set1 f x v) := by
  unfold putK addK
  rw [valV_any]
  by_cases h : x ∈ l
  · rw [byK_val inj h, if_pos (show (some (f x)).isSome = true from rfl), if_pos h]
    unfold byK
    rw [List.map_map]
    refine List.map_congr_left fun y _ => ?_
    show (if c y = c x then (c y, v) else (c y, f y)) = (c y, set1 f x v y)
    unfold set1
    by_cases e : y = x
    · rw [if_pos (by rw [e]), if_pos e]
    · rw [if_neg (fun z => e (inj _ _ z)), if_neg e]
  · rw [byK_none inj h, if_neg (show ¬ (none : Option V).isSome = true from nofun), if_neg h]
    unfold byK
    rw [List.map_append]
    congr 1
    · refine List.map_congr_left fun y hy => ?_
      show (c y, f y) = (c y, set1 f x v y)
      rw [set1_ne (fun e => h (by rw [← e]; exact hy))]
    · show [(c x, v)] = [(c x, set1 f x v x)]
      rw [set1_same]
  in #guard_msgs (pass all) in example : True := trivial
end
abbrev kN (x : Str) : Key := Sum.inr x
abbrev kI (k : Int) : Key := Sum.inl k
theorem kN_inj : ∀ a b : Str, kN a = kN b → a = b := fun _ _ h => Sum.inr.inj h
set_option Elab.async true in
theorem dget_n {H : Hp} {a : Addr} {l : List Str} {f : Str → V} {x : Str} (h : Rd H a (.dK (byK kN l f))) (hx : x ∈ l) : DGet H a (.str x) (some (f x)) := .inl ⟨_, kN x, h, rfl, (byK_val kN_inj hx).symm⟩
  in #guard_msgs (pass all) in example : True := trivial
set_option Elab.async true in
theorem dget_n0 {H : Hp} {a : Addr} {l : List Str} {f : Str → V} {x : Str} (h : Rd H a (.dK (byK kN l f))) (hx : x ∉ l) : DGet H a (.str x) none := .inl ⟨_, kN x, h, rfl, (byK_none kN_inj hx).symm⟩
  in #guard_msgs (pass all) in example : True := trivial
/-! walks over a locked dict -/
set_option Elab.async true in
theorem for_keys {d : Addr} {od : Obj} {kvs : List (Key × V)} {g : TG} {tb : TS} {D : Ends} {σ : L2.St} {H : Hp} (Pv : Nat → L2.St → Hp → Prop) (h0 : Pv 0 σ H) (hl : ∀ i σ H, i ≤ kvs.length → Pv i σ H → H d = some (.frz od (.dK kvs)))
    (hs : ∀ i k v σ H, kvs[i]? = some (k, v) → Pv i σ H → g (kV k) σ H fun σ2 H2 => tb { D with nx := Pv (i + 1), ct := Pv (i + 1), bk := D.nx } σ2 H2) (hd : ∀ σ H, Pv kvs.length σ H → D.nx σ H) :
    ∃ W : Nat → Nat → L2.St → Hp → Prop, (∃ m, W 0 m σ H) ∧ ∀ i m σ H, W i m σ H →
      ((Itk d od kvs).stop i H ∧ D.nx σ H) ∨ ((Itk d od kvs).go i H ∧ ∃ N : L2.St → Hp → Prop, (∀ σ' H', N σ' H' → ∃ m', m' < m ∧ W (i + 1) m' σ' H') ∧ ∀ x H', (Itk d od kvs).yld i H x H' → g x σ H' fun σ2 H2 => tb { D with nx := N, ct := N, bk := D.nx } σ2 H2) := by
  refine ⟨fun i m σ H => m = kvs.length - i ∧ i ≤ kvs.length ∧ Pv i σ H, ⟨kvs.length, by simp, Nat.zero_le _, h0⟩, ?_⟩
  rintro i m σ H ⟨rfl, hi, p⟩
  have q := hl i σ H hi p
  by_cases hlt : i < kvs.length
  · refine .inr ⟨⟨q, hlt⟩, Pv (i + 1), fun σ' H' p' => ⟨kvs.length - (i + 1), by omega, rfl, hlt, p'⟩, fun x H' y => ?_⟩
    obtain ⟨e, k, v, y, ex⟩ := y
    subst e ex
    exact hs i k v σ _ y p
  · have e : i = kvs.length := by omega
    subst e
    exact .inl ⟨⟨q, Nat.le_refl _⟩, hd σ H p⟩
  in #guard_msgs (pass all) in example : True := trivial
set_option Elab.async true in
theorem for_vals {d : Addr} {od : Obj} {kvs : List (Key × V)} {g : TG} {tb : TS} {D : Ends} {σ : L2.St} {H : Hp} (Pv : Nat → L2.St → Hp → Prop) (h0 : Pv 0 σ H) (hl : ∀ i σ H, i ≤ kvs.length → Pv i σ H → H d = some (.frz od (.dK kvs)))
    (hs : ∀ i k v σ H, kvs[i]? = some (k, v) → Pv i σ H → g v σ H fun σ2 H2 => tb { D with nx := Pv (i + 1), ct := Pv (i + 1), bk := D.nx } σ2 H2) (hd : ∀ σ H, Pv kvs.length σ H → D.nx σ H) :
    ∃ W : Nat → Nat → L2.St → Hp → Prop, (∃ m, W 0 m σ H) ∧ ∀ i m σ H, W i m σ H →
      ((Itd d od kvs).stop i H ∧ D.nx σ H) ∨ ((Itd d od kvs).go i H ∧ ∃ N : L2.St → Hp → Prop, (∀ σ' H', N σ' H' → ∃ m', m' < m ∧ W (i + 1) m' σ' H') ∧ ∀ x H', (Itd d od kvs).yld i H x H' → g x σ H' fun σ2 H2 => tb { D with nx := N, ct := N, bk := D.nx } σ2 H2) := by
  refine ⟨fun i m σ H => m = kvs.length - i ∧ i ≤ kvs.length ∧ Pv i σ H, ⟨kvs.length, by simp, Nat.zero_le _, h0⟩, ?_⟩
  rintro i m σ H ⟨rfl, hi, p⟩
  have q := hl i σ H hi p
  by_cases hlt : i < kvs.length
  · refine .inr ⟨⟨q, hlt⟩, Pv (i + 1), fun σ' H' p' => ⟨kvs.length - (i + 1), by omega, rfl, hlt, p'⟩, fun x H' y => ?_⟩
    obtain ⟨e, k, y⟩ := y
    subst e
    exact hs i k x σ _ y p
  · have e : i = kvs.length := by omega
    subst e
    exact .inl ⟨⟨q, Nat.le_refl _⟩, hd σ H p⟩
  in #guard_msgs (pass all) in example : True := trivial
/-! rules -/
section
variable {X : Cx}
set_option Elab.async true in
theorem pe_fldK {K : PySem.W.Frag} {e : Expr} {f : Str} {pos : Pos} {ta : TE} (h : X.K = K) (he : PE X e ta) (hb : attributeBase e f X.env (eval e X.env) = eval e X.env) : PE X (.Attribute e f pos) (tFld K ta f) := h ▸ pe_fld he hb
  in #guard_msgs (pass all) in example : True := trivial
/-- a dict beside an empty one -/
def rEqDE : R2 := fun x y H Q => ∃ a b ks, x = .ref a ∧ y = .ref b ∧ H a = some (.dK ks) ∧ H b = some (.dK []) ∧ Q (.bl ks.isEmpty) H
def rNeDE : R2 := fun x y H Q => ∃ a b ks, x = .ref a ∧ y = .ref b ∧ H a = some (.dK ks) ∧ H b = some (.dK []) ∧ Q (.bl (!ks.isEmpty)) H
/-- each second one of twelve -/
def ev2 {α : Type} : List α → List α
  | a :: _ :: r => a :: ev2 r
  | [a] => [a]
  | [] => []
def tEv2 (K : PySem.W.Frag) (te : TE) : TE := fun σ H Q => te σ H fun x H1 => ∃ a xs, x = .ref a ∧ SqL K H1 a xs ∧ xs.length = 12 ∧ ∀ p, H1 p = none → Q (.ref p) (upd H1 p (.lst (ev2 xs)))
/-- how many keys -/
def rLenDK : List V → Hp → VK → Prop := fun xs H Q => ∃ a kvs, xs = [.ref a] ∧ Rd H a (.dK kvs) ∧ Q (.int ((kvs.length : Nat) : Int)) H
end
end KR
/-! ### moulds: what a mould, the moulds of a row, the law's own book of them hold -/
namespace KR
open PySem PySem.Spec PyProof.Rows L2
section
variable {K : PySem.W.Frag} {H H' : Hp} {v : V} {q s w : Rat} {n : Nat} {d : PyData}
theorem FrQ.tk {x : Addr} (h : FrQ K H x q) (t : TK K H H') : FrQ K H' x q := t _ _ h
set_option Elab.async true in
theorem JuQ.tk {x : Addr} (h : JuQ K H x s w) (t : TK K H H') : JuQ K H' x s w := by
  obtain ⟨a, b, h1, h2, h3⟩ := h
  exact ⟨a, b, t _ _ h1, h2.tk t, h3.tk t⟩
  in #guard_msgs (pass all) in example : True := trivial
/-- a value that is a fraction; a juice -/
def FQ (K : PySem.W.Frag) (H : Hp) (v : V) (q : Rat) : Prop := ∃ a, v = .ref a ∧ FrQ K H a q
def JQ (K : PySem.W.Frag) (H : Hp) (v : V) (s w : Rat) : Prop := ∃ a, v = .ref a ∧ JuQ K H a s w
theorem FQ.tk (h : FQ K H v q) (t : TK K H H') : FQ K H' v q := h.elim fun a z => ⟨a, z.1, z.2.tk t⟩
theorem JQ.tk (h : JQ K H v s w) (t : TK K H H') : JQ K H' v s w := h.elim fun a z => ⟨a, z.1, z.2.tk t⟩
/-- data of tuples alone: it stays -/
inductive Dtu (K : PySem.W.Frag) (H : Hp) : Nat → V → PyData → Prop
  | non (n : Nat) : Dtu K H (n + 1) .non .none
  | bl (n : Nat) (b : Bool) : Dtu K H (n + 1) (.bl b) (.bool b)
  | int (n : Nat) (i : Int) : Dtu K H (n + 1) (.int i) (.int i)
  | str (n : Nat) (x : Str) (ok : PyData.canLay0 (.str x) = true) : Dtu K H (n + 1) (.str x) (.str x)
  | tup {n : Nat} {a : Addr} {xs : List V} {ds : List PyData} : SqT K H a xs → xs.length = ds.length → xs.length ≤ 100000 → (∀ (i : Nat) (x : V) (d : PyData), xs[i]? = some x → ds[i]? = some d → Dtu K H n x d) → Dtu K H (n + 1) (.ref a) (.tuple ds)
set_option Elab.async true in
theorem Dtu.tk (t : TK K H H') : ∀ {n : Nat} {v : V} {d : PyData}, Dtu K H n v d → Dtu K H' n v d := by
  intro n v d h
  induction h with
  | non n => exact .non n
  | bl n b => exact .bl n b
  | int n i => exact .int n i
  | str n x ok => exact .str n x ok
  | tup h1 h2 h3 _ ih => exact .tup (t _ _ h1) h2 h3 ih
  in #guard_msgs (pass all) in example : True := trivial
set_option Elab.async true in
theorem Dtu.up {m : Nat} (h : Dtu K H n v d) : n ≤ m → Dtu K H m v d := by
  intro le
  induction h generalizing m with
  | non n => obtain ⟨k, rfl⟩ : ∃ k, m = k + 1 := ⟨m - 1, by omega⟩; exact .non k
  | bl n b => obtain ⟨k, rfl⟩ : ∃ k, m = k + 1 := ⟨m - 1, by omega⟩; exact .bl k b
  | int n i => obtain ⟨k, rfl⟩ : ∃ k, m = k + 1 := ⟨m - 1, by omega⟩; exact .int k i
  | str n x ok => obtain ⟨k, rfl⟩ : ∃ k, m = k + 1 := ⟨m - 1, by omega⟩; exact .str k x ok
  | tup h1 h2 h3 _ ih => obtain ⟨k, rfl⟩ : ∃ k, m = k + 1 := ⟨m - 1, by omega⟩; exact .tup h1 h2 h3 fun i x d a b => ih i x d a b (by omega)
  in #guard_msgs (pass all) in example : True := trivial
def DtuAll (K : PySem.W.Frag) (H : Hp) (n : Nat) (xs : List V) (ds : List PyData) : Prop := xs.length = ds.length ∧ ∀ (i : Nat) (x : V) (d : PyData), xs[i]? = some x → ds[i]? = some d → Dtu K H n x d
theorem DtuAll.nil : DtuAll K H n [] [] := ⟨rfl, fun i x d h => by simp at h⟩
set_option Elab.async true in
theorem DtuAll.cons {xs : List V} {ds : List PyData} (h : Dtu K H n v d) (t : DtuAll K H n xs ds) : DtuAll K H n (v :: xs) (d :: ds) :=
  ⟨by rw [List.length_cons, List.length_cons, t.1], fun i u y hu hv => match i, hu, hv with
    | 0, hu, hv => by cases hu; cases hv; exact h
    | i + 1, hu, hv => t.2 i u y hu hv⟩
  in #guard_msgs (pass all) in example : True := trivial
set_option Elab.async true in
theorem DtuAll.tk {xs : List V} {ds : List PyData} (h : DtuAll K H n xs ds) (t : TK K H H') : DtuAll K H' n xs ds := ⟨h.1, fun i x d a b => (h.2 i x d a b).tk t⟩
  in #guard_msgs (pass all) in example : True := trivial
set_option Elab.async true in
theorem DtuAll.tup {xs : List V} {ds : List PyData} {a : Addr} (t : DtuAll K H n xs ds) (h : SqT K H a xs) (z : xs.length ≤ 100000) : Dtu K H (n + 1) (.ref a) (.tuple ds) := .tup h t.1 z t.2
  in #guard_msgs (pass all) in example : True := trivial
set_option Elab.async true in
theorem FrQ.dtu {x : Addr} (h : FrQ K H x q) (n : Nat := 0) : Dtu K H (n + 2) (.ref x) (dq q) := DtuAll.tup (.cons (.int _ _) (.cons (.int _ _) .nil)) h (by show 2 ≤ 100000; decide)
  in #guard_msgs (pass all) in example : True := trivial
set_option Elab.async true in
theorem JuQ.dtu {x : Addr} (h : JuQ K H x s w) (n : Nat := 0) : Dtu K H (n + 3) (.ref x) (dj s w) := by
  obtain ⟨a, b, h1, h2, h3⟩ := h
  exact DtuAll.tup (.cons (h2.dtu n) (.cons (h3.dtu n) .nil)) h1 (by show 2 ≤ 100000; decide)
  in #guard_msgs (pass all) in example : True := trivial
set_option Elab.async true in
theorem Dtu.tupI {a : Addr} {ds : List PyData} (h : Dtu K H (n + 1) (.ref a) (.tuple ds)) : ∃ xs, SqT K H a xs ∧ DtuAll K H n xs ds := by
  cases h with
  | tup h1 h2 h3 h4 => exact ⟨_, h1, h2, h4⟩
  in #guard_msgs (pass all) in example : True := trivial
set_option Elab.async true in
theorem Dtu.ref {ds : List PyData} (h : Dtu K H n v (.tuple ds)) : ∃ a, v = .ref a := by
  cases h with
  | tup h1 h2 h3 h4 => exact ⟨_, rfl⟩
  in #guard_msgs (pass all) in example : True := trivial
theorem Dtu.intI {i : Int} (h : Dtu K H n v (.int i)) : v = .int i := by
  cases h with
  | int => rfl
set_option Elab.async true in
theorem DtuAll.two {xs : List V} {d1 d2 : PyData} (h : DtuAll K H n xs [d1, d2]) : ∃ v1 v2, xs = [v1, v2] ∧ Dtu K H n v1 d1 ∧ Dtu K H n v2 d2 := by
  obtain ⟨l, p⟩ := h
  match xs, l with
  | [a, b], _ => exact ⟨a, b, rfl, p 0 _ _ rfl rfl, p 1 _ _ rfl rfl⟩
  in #guard_msgs (pass all) in example : True := trivial
set_option Elab.async true in
theorem Dtu.fq (h : Dtu K H (n + 1) v (dq q)) : FQ K H v q := by
  obtain ⟨a, rfl⟩ := h.ref
  obtain ⟨xs, h1, h2⟩ := h.tupI
  obtain ⟨l, p⟩ := h2
  match xs, l with
  | [x, y], _ =>
    have e1 := (p 0 _ _ rfl rfl).intI
    have e2 := (p 1 _ _ rfl rfl).intI
    subst e1 e2
    exact ⟨a, rfl, h1⟩
  in #guard_msgs (pass all) in example : True := trivial
end
section
variable {K : PySem.W.Frag}
end
/-! one mould -/
structure Mo where
  room : Int
  drip : Rat
  s : Rat
  w : Rat
  ks : List Int
  q : Int → Rat
  cur : Bool
/-- all of its sugar as it was poured -/
def Mo.tot (m : Mo) : Rat := zsum (m.ks.map m.q)
def srt (ks : List Int) : List Int := ks.mergeSort fun a b => decide (a ≤ b)
def Mo.shp (m : Mo) (k : Int) : PyData := .tuple [.int k, dq (m.q k / m.tot)]
/-- the shares that it bears -/
def Mo.shd (m : Mo) : PyData := .tuple ((srt m.ks).map fun k => .tuple [.int k, dq (m.q k / m.tot)])
def mo0 (room : Int) (drip : Rat) : Mo := ⟨room, drip, 0, 0, [], fun _ => 0, false⟩
def Mo.bear (m : Mo) (k : Int) (s : Rat) : Mo := { m with ks := addK m.ks k, q := set1 m.q k ((if k ∈ m.ks then m.q k else 0) + s) }
def Mo.drained (m : Mo) : Mo := { m with s := m.s - m.s * m.drip, w := 0, cur := true }
def Mo.cleared (m : Mo) : Mo := { m with s := 0, w := 0, ks := [], cur := false }
def Mo.poured (m : Mo) (s w : Rat) : Mo := { m with s := s, w := w }
/-- numbers of it that can be reckoned with -/
structure Mo.Fit (m : Mo) : Prop where
  nd : m.ks.Nodup
  len : m.ks.length < 64
  big : ∀ k ∈ m.ks, Big (m.q k)
  add : AddOk (m.ks.map m.q)
  tot : m.ks ≠ [] → m.tot ≠ 0
  s : Big m.s
  w : Big m.w
  drip : Big m.drip
  gone : Big (m.s * m.drip)
/-- the attributes of a mould, as they are stored -/
def mf (room : Int) (dv jv : V) (g : Addr) (cur : Bool) : List (Str × V) := [("room", .int room), ("drip", dv), ("juice", jv), ("sugars", .ref g), ("cured", .bl cur)]
def mfs (rv : V) (t : Addr) (vv : V) (l : Addr) : List (Str × V) := [("_row", rv), ("_table", .ref t), ("_vat", vv), ("_loaves", .ref l)]
/-- a mould of the class C stands at c, its sugars at g -/
structure CellAt (K : PySem.W.Frag) (C : Addr) (H : Hp) (c g : Addr) (m : Mo) : Prop where
  at_ : ∃ dx dv jv, H c = some (.ins C dx (mf m.room dv jv g m.cur)) ∧ FQ K H dv m.drip ∧ JQ K H jv m.s m.w
  sug : ∃ f : Int → V, H g = some (.dK (byK kI m.ks f)) ∧ ∀ k ∈ m.ks, FQ K H (f k) (m.q k)
set_option Elab.async true in
theorem CellAt.off {K : PySem.W.Frag} {C : Addr} {H H' : Hp} {c g : Addr} {m : Mo} {R : Addr → Prop} (h : CellAt K C H c g m) (o : Off K R H H') (nc : ¬ R c) (ng : ¬ R g) : CellAt K C H' c g m := by
  obtain ⟨⟨dx, dv, jv, h1, h2, h3⟩, f, h4, h5⟩ := h
  exact ⟨⟨dx, dv, jv, o.ins nc h1, h2.tk o.tk, h3.tk o.tk⟩, f, o.dK ng h4, fun k hk => (h5 k hk).tk o.tk⟩
  in #guard_msgs (pass all) in example : True := trivial
/-- the moulds of a row, by their names -/
structure MAd where
  p : Addr
  t : Addr
  l : Addr
  c : Str → Addr
  g : Str → Addr
def MAd.R (A : MAd) (nms : List Str) : Addr → Prop := fun a => a = A.p ∨ a = A.l ∨ ∃ x ∈ nms, a = A.c x ∨ a = A.g x
structure MouldsAt (K : PySem.W.Frag) (CO CM : Addr) (H : Hp) (A : MAd) (nms : List Str) (st : Str → Mo) (vs vw : Rat) (lds : List PyData) : Prop where
  p : ∃ dx rv vv, H A.p = some (.ins CO dx (mfs rv (A.t) vv A.l)) ∧ JQ K H vv vs vw
  t : Rd H A.t (.dK (byK kN nms fun x => .ref (A.c x)))
  l : ∃ lvs, H A.l = some (.lst lvs) ∧ lvs.length ≤ 50000 ∧ DtuAll K H 5 lvs lds
  cell : ∀ x ∈ nms, CellAt K CM H (A.c x) (A.g x) (st x)
  ci : ∀ x ∈ nms, ∀ y ∈ nms, A.c x = A.c y → x = y
  gi : ∀ x ∈ nms, ∀ y ∈ nms, A.g x = A.g y → x = y
  gt : ∀ x ∈ nms, A.g x ≠ A.t
  cp : ∀ x ∈ nms, A.c x ≠ A.p
section
variable {K : PySem.W.Frag} {CO CM : Addr} {H H' : Hp} {A : MAd} {nms : List Str} {st st' : Str → Mo} {vs vw : Rat} {lds : List PyData} {R : Addr → Prop}
set_option Elab.async true in
theorem MouldsAt.off (h : MouldsAt K CO CM H A nms st vs vw lds) (o : Off K R H H') (n : ∀ a, A.R nms a → ¬ R a) (nt : ¬ R A.t) : MouldsAt K CO CM H' A nms st vs vw lds := by
  obtain ⟨⟨dx, rv, vv, h1, h2⟩, ht, ⟨lvs, h3, h4, h5⟩, hc, ci, gi, gt, cp⟩ := h
  exact ⟨⟨dx, rv, vv, o.ins (n _ (.inl rfl)) h1, h2.tk o.tk⟩, o.rd nt ht nofun, ⟨lvs, o.lst (n _ (.inr (.inl rfl))) h3, h4, h5.tk o.tk⟩, fun x hx => (hc x hx).off o (n _ (.inr (.inr ⟨x, hx, .inl rfl⟩))) (n _ (.inr (.inr ⟨x, hx, .inr rfl⟩))), ci, gi, gt, cp⟩
  in #guard_msgs (pass all) in example : True := trivial
set_option Elab.async true in
/-- one mould of them changed: the heap but c, g of it stayed -/
theorem MouldsAt.set (h : MouldsAt K CO CM H A nms st vs vw lds) {x : Str} (hx : x ∈ nms) {m : Mo} (o : Off K (fun a => a = A.c x ∨ a = A.g x) H H') (hc : CellAt K CM H' (A.c x) (A.g x) m) : MouldsAt K CO CM H' A nms (set1 st x m) vs vw lds := by
  have nt : ¬ (A.t = A.c x ∨ A.t = A.g x) := fun z => by
    rcases z with z | z
    · obtain ⟨⟨dx, dv, jv, h1, _⟩, _⟩ := h.cell x hx
      rcases h.t with t | ⟨ob, t⟩ <;> (rw [z, h1] at t; cases t)
    · exact h.gt x hx z.symm
  obtain ⟨⟨dx, rv, vv, h1, h2⟩, ht, ⟨lvs, h3, h4, h5⟩, hcs, ci, gi, gt, cp⟩ := h
  obtain ⟨⟨dx2, dv, jv, k1, _⟩, f, k2, _⟩ := hcs x hx
  refine ⟨⟨dx, rv, vv, o.ins (fun z => ?_) h1, h2.tk o.tk⟩, o.rd nt ht nofun, ⟨lvs, o.lst (fun z => ?_) h3, h4, h5.tk o.tk⟩, fun y hy => ?_, ci, gi, gt, cp⟩
  · rcases z with z | z
    · exact cp x hx z.symm
    · rw [z, k2] at h1; cases h1
  · rcases z with z | z
    · rw [z, k1] at h3; cases h3
    · rw [z, k2] at h3; cases h3
  · by_cases e : y = x
    · subst e
      rw [set1_same]
      exact hc
    · rw [set1_ne e]
      obtain ⟨⟨dx3, dv3, jv3, k3, _⟩, f3, k4, _⟩ := hcs y hy
      refine (hcs y hy).off o (fun z => ?_) (fun z => ?_)
      · rcases z with z | z
        · exact e (ci y hy x hx z)
        · rw [z, k2] at k3; cases k3
      · rcases z with z | z
        · rw [z, k1] at k4; cases k4
        · exact e (gi y hy x hx z)
  in #guard_msgs (pass all) in example : True := trivial
end
/-! refusals -/
def Rf (C : Addr) (nm : Str) (v : V) (H : Hp) (E : XK) : Prop := ∀ d H', Same H H' → H' d = some (.xd (wh nm v)) → E (.ref C) (some d) H'
/-! contracts -/
def sp_jw2 (K : PySem.W.Frag) : Sp := fun vs H Q _ => ∃ (x y : Addr) (s w s' w' : Rat), vs = [.ref x, .ref y] ∧ JuQ K H x s w ∧ JuQ K H y s' w' ∧ Big s ∧ Big w ∧ Big s' ∧ Big w' ∧ ∀ z H', Same H H' → JuQ K H' z (s + s') (w + w') → Q (.ref z) H'
def sp_volW (K : PySem.W.Frag) : Sp := fun vs H Q _ => ∃ (x : Addr) (s w : Rat), vs = [.ref x] ∧ JuQ K H x s w ∧ Big s ∧ Big w ∧ ∀ z H', Same H H' → FrQ K H' z (s + w) → Q (.ref z) H'
def sp_lessB (K : PySem.W.Frag) : Sp := fun vs H Q _ => ∃ (x y : Addr) (p q : Rat), vs = [.ref x, .ref y] ∧ FrQ K H x p ∧ FrQ K H y q ∧ Big p ∧ Big q ∧ Q (.bl (decide (p < q))) H
def sp_Mould_init (K : PySem.W.Frag) (C : Addr) : Sp := fun vs H Q _ => ∃ (c dx : Addr) (r : Int) (dv : V) (d : Rat), vs = [.ref c, .int r, dv] ∧ H c = some (.ins C dx []) ∧ FQ K H dv d ∧ ∀ g H', H g = none → CellAt K C H' c g (mo0 r d) → Off K (· = c) H H' → Q .non H'
def sp_Mould_bear (K : PySem.W.Frag) (C : Addr) : Sp := fun vs H Q _ => ∃ (c g : Addr) (m : Mo) (k : Int) (a : Addr) (s : Rat), vs = [.ref c, .int k, .ref a] ∧ CellAt K C H c g m ∧ FrQ K H a s ∧ Big s ∧ (k ∈ m.ks → Big (m.q k)) ∧ m.ks.length < 1000 ∧ ∀ H', CellAt K C H' c g (m.bear k s) → Off K (· = g) H H' → Q .non H'
def sp_Mould_strike_shares (K : PySem.W.Frag) (C : Addr) : Sp := fun vs H Q _ => ∃ (c g : Addr) (m : Mo), vs = [.ref c] ∧ CellAt K C H c g m ∧ m.Fit ∧ ∀ a H', Same H H' → Dtu K H' 4 (.ref a) m.shd → Q (.ref a) H'
def sp_Mould_drip_out (K : PySem.W.Frag) (C : Addr) : Sp := fun vs H Q _ => ∃ (c g : Addr) (m : Mo), vs = [.ref c] ∧ CellAt K C H c g m ∧ m.Fit ∧ ∀ a H', CellAt K C H' c g m.drained → JuQ K H' a (m.s * m.drip) m.w → Off K (· = c) H H' → Q (.ref a) H'
def sp_Mould_clear_out (K : PySem.W.Frag) (C : Addr) : Sp := fun vs H Q _ => ∃ (c g : Addr) (m : Mo), vs = [.ref c] ∧ CellAt K C H c g m ∧ ∀ g' H', H g' = none → CellAt K C H' c g' m.cleared → Off K (· = c) H H' → Q .non H'
def sp_need_some (K : PySem.W.Frag) (CE : Addr) : Sp := fun vs H Q E => ∃ (v : V) (a : Addr) (s w : Rat), vs = [v, .ref a] ∧ JuQ K H a s w ∧ ((s = 0 ∧ w = 0) → Rf CE "Empty" v H E) ∧ (¬ (s = 0 ∧ w = 0) → ∀ H', Same H H' → Q .non H')
def sp_poured_into (K : PySem.W.Frag) (CR : Addr) : Sp := fun vs H Q E => ∃ (v : V) (r : Int) (a b : Addr) (s w s' w' : Rat), vs = [v, .int r, .ref a, .ref b] ∧ JuQ K H a s w ∧ JuQ K H b s' w' ∧ Big s ∧ Big w ∧ Big s' ∧ Big w' ∧ Big (s + s') ∧ Big (w + w') ∧ Big (s + s' + (w + w')) ∧ Big (r : Rat) ∧
  ((r : Rat) < s + s' + (w + w') → Rf CR "NoRoom" v H E) ∧ (¬ (r : Rat) < s + s' + (w + w') → ∀ z H', Same H H' → JuQ K H' z (s + s') (w + w') → Q (.ref z) H')
def sp_Moulds_named (K : PySem.W.Frag) (CO CN : Addr) : Sp := fun vs H Q E => ∃ (p t l dx : Addr) (rv vv : V) (x : Str) (nms : List Str) (c : Str → Addr), vs = [.ref p, .str x] ∧ H p = some (.ins CO dx (mfs rv t vv l)) ∧ Rd H t (.dK (byK kN nms fun x => .ref (c x))) ∧
  (x ∉ nms → Rf CN "NoMould" (.str x) H E) ∧ (x ∈ nms → Q (.ref (c x)) H)
/-- pours: a mould's name, sugar, water -/
abbrev Pour := Str × Rat × Rat
def PourAt (K : PySem.W.Frag) (H : Hp) (v : V) (p : Pour) : Prop := ∃ t j, v = .ref t ∧ SqT K H t [.str p.1, .ref j] ∧ JuQ K H j p.2.1 p.2.2
abbrev Ju := Rat × Rat
def jst (F : Str → Ju) (p : Pour) : Str → Ju := set1 F p.1 ((F p.1).1 + p.2.1, (F p.1).2 + p.2.2)
def beh (F : Str → Ju) (ps : List Pour) : Str → Ju := ps.foldl jst F
def pks (ps : List Pour) : List Str := ps.foldl (fun l p => addK l p.1) []
def jus (st : Str → Mo) : Str → Ju := fun x => ((st x).s, (st x).w)
/-- the first pour at fault: 0 no mould, 1 cured, 2 no room -/
def pflt (nms : List Str) (st : Str → Mo) : (Str → Ju) → List Pour → Option (Nat × Str)
  | _, [] => none
  | F, p :: r => if p.1 ∉ nms then some (0, p.1) else if (st p.1).cur = true then some (1, p.1) else if ((st p.1).room : Rat) < (F p.1).1 + p.2.1 + ((F p.1).2 + p.2.2) then some (2, p.1) else pflt nms st (jst F p) r
set_option Elab.async true in
theorem foldl_take {α β : Type} {f : β → α → β} {b : β} {l : List α} {i : Nat} {x : α} (h : l[i]? = some x) : (l.take (i + 1)).foldl f b = f ((l.take i).foldl f b) x := by
  rw [take_one h, List.foldl_append] <;> rfl
  in #guard_msgs (pass all) in example : True := trivial
def sp_Moulds__juices_behind (K : PySem.W.Frag) (CO CM CN CC CR : Addr) : Sp := fun vs H Q E => ∃ (A : MAd) (nms : List Str) (st : Str → Mo) (v1 v2 : Rat) (lds : List PyData) (l : Addr) (pvs : List V) (ps : List Pour), vs = [.ref A.p, .ref l] ∧ MouldsAt K CO CM H A nms st v1 v2 lds ∧ SqL K H l pvs ∧ pvs.length = ps.length ∧ (∀ (i : Nat) (v : V) (p : Pour), pvs[i]? = some v → ps[i]? = some p → PourAt K H v p) ∧ ps.length ≤ 1000 ∧
  (∀ p ∈ ps, Big p.2.1 ∧ Big p.2.2) ∧ (∀ i, i ≤ ps.length → ∀ x ∈ nms, Big (beh (jus st) (ps.take i) x).1 ∧ Big (beh (jus st) (ps.take i) x).2 ∧ Big ((beh (jus st) (ps.take i) x).1 + (beh (jus st) (ps.take i) x).2)) ∧ (∀ x ∈ nms, Big ((st x).room : Rat)) ∧
  (∀ x, pflt nms st (jus st) ps = some (0, x) → Rf CN "NoMould" (.str x) H E) ∧ (∀ x, pflt nms st (jus st) ps = some (1, x) → Rf CC "Cured" (.str x) H E) ∧ (∀ x, pflt nms st (jus st) ps = some (2, x) → Rf CR "NoRoom" (.str x) H E) ∧
  (pflt nms st (jus st) ps = none → ∀ D f H', H D = none → Same H H' → H' D = some (.dK (byK kN (pks ps) f)) → (∀ x ∈ pks ps, JQ K H' (f x) (beh (jus st) ps x).1 (beh (jus st) ps x).2) → Q (.ref D) H')
/-- what a filling leaves -/
def fst1 (F : Str → Ju) (k : Int) (S : Str → Mo) (p : Pour) : Str → Mo := set1 S p.1 (((S p.1).poured (F p.1).1 (F p.1).2).bear k p.2.1)
def filled (st : Str → Mo) (k : Int) (ps : List Pour) : Str → Mo := ps.foldl (fst1 (beh (jus st) ps) k) st
def sp_Moulds_fill (K : PySem.W.Frag) (CO CM CN CC CR : Addr) : Sp := fun vs H Q E => ∃ (A : MAd) (nms : List Str) (st : Str → Mo) (v1 v2 : Rat) (lds : List PyData) (k : Int) (l : Addr) (pvs : List V) (ps : List Pour), vs = [.ref A.p, .int k, .ref l] ∧ MouldsAt K CO CM H A nms st v1 v2 lds ∧ SqL K H l pvs ∧ ¬ A.R nms l ∧ pvs.length = ps.length ∧ (∀ (i : Nat) (v : V) (p : Pour), pvs[i]? = some v → ps[i]? = some p → PourAt K H v p) ∧ ps.length ≤ 1000 ∧
  (∀ p ∈ ps, Big p.2.1 ∧ Big p.2.2) ∧ (∀ i, i ≤ ps.length → ∀ x ∈ nms, Big (beh (jus st) (ps.take i) x).1 ∧ Big (beh (jus st) (ps.take i) x).2 ∧ Big ((beh (jus st) (ps.take i) x).1 + (beh (jus st) (ps.take i) x).2)) ∧ (∀ x ∈ nms, Big ((st x).room : Rat)) ∧
  (∀ i, i < ps.length → ∀ x ∈ nms, ((ps.take i).foldl (fst1 (beh (jus st) ps) k) st x).ks.length < 1000 ∧ (k ∈ ((ps.take i).foldl (fst1 (beh (jus st) ps) k) st x).ks → Big (((ps.take i).foldl (fst1 (beh (jus st) ps) k) st x).q k))) ∧
  (∀ x, pflt nms st (jus st) ps = some (0, x) → Rf CN "NoMould" (.str x) H E) ∧ (∀ x, pflt nms st (jus st) ps = some (1, x) → Rf CC "Cured" (.str x) H E) ∧ (∀ x, pflt nms st (jus st) ps = some (2, x) → Rf CR "NoRoom" (.str x) H E) ∧
  (pflt nms st (jus st) ps = none → ∀ H', MouldsAt K CO CM H' A nms (filled st k ps) v1 v2 lds → Off K (A.R nms) H H' → Q .non H')
def sp_Moulds_drain (K : PySem.W.Frag) (CO CM CN CE CC : Addr) : Sp := fun vs H Q E => ∃ (A : MAd) (nms : List Str) (st : Str → Mo) (v1 v2 : Rat) (lds : List PyData) (x : Str), vs = [.ref A.p, .str x] ∧ MouldsAt K CO CM H A nms st v1 v2 lds ∧ (x ∈ nms → (st x).Fit) ∧ Big v1 ∧ Big v2 ∧
  (x ∉ nms → Rf CN "NoMould" (.str x) H E) ∧ (x ∈ nms → ((st x).s = 0 ∧ (st x).w = 0) → Rf CE "Empty" (.str x) H E) ∧ (x ∈ nms → ¬ ((st x).s = 0 ∧ (st x).w = 0) → (st x).cur = true → Rf CC "Cured" (.str x) H E) ∧
  (x ∈ nms → ¬ ((st x).s = 0 ∧ (st x).w = 0) → (st x).cur = false → ∀ a H', MouldsAt K CO CM H' A nms (set1 st x (st x).drained) (v1 + (st x).s * (st x).drip) (v2 + (st x).w) lds → JuQ K H' a ((st x).s * (st x).drip) (st x).w → Off K (A.R nms) H H' → Q (.ref a) H')
def loafD (x : Str) (m : Mo) : PyData := .tuple [.str x, dq m.s, m.shd]
def sp_Moulds_knock (K : PySem.W.Frag) (CO CM CN CE CC : Addr) : Sp := fun vs H Q E => ∃ (A : MAd) (nms : List Str) (st : Str → Mo) (v1 v2 : Rat) (lds : List PyData) (x : Str), vs = [.ref A.p, .str x] ∧ MouldsAt K CO CM H A nms st v1 v2 lds ∧ (x ∈ nms → (st x).Fit ∧ PyData.canLay0 (.str x) = true) ∧ lds.length < 50000 ∧
  (x ∉ nms → Rf CN "NoMould" (.str x) H E) ∧ (x ∈ nms → ((st x).s = 0 ∧ (st x).w = 0) → Rf CE "Empty" (.str x) H E) ∧ (x ∈ nms → ¬ ((st x).s = 0 ∧ (st x).w = 0) → (st x).cur = false → Rf CC "NotCured" (.str x) H E) ∧
  (x ∈ nms → ¬ ((st x).s = 0 ∧ (st x).w = 0) → (st x).cur = true → ∀ a g H', H g = none → MouldsAt K CO CM H' { A with g := set1 A.g x g } nms (set1 st x (st x).cleared) v1 v2 (lds ++ [loafD x (st x)]) → Dtu K H' 5 (.ref a) (.tuple [dq (st x).s, (st x).shd]) → Off K (A.R nms) H H' → Q (.ref a) H')
def sp_Moulds_bears (K : PySem.W.Frag) (CO CM CN : Addr) : Sp := fun vs H Q E => ∃ (A : MAd) (nms : List Str) (st : Str → Mo) (v1 v2 : Rat) (lds : List PyData) (x : Str), vs = [.ref A.p, .str x] ∧ MouldsAt K CO CM H A nms st v1 v2 lds ∧ (x ∈ nms → (st x).Fit) ∧
  (x ∉ nms → Rf CN "NoMould" (.str x) H E) ∧ (x ∈ nms → ∀ a H', Same H H' → Dtu K H' 4 (.ref a) (st x).shd → Q (.ref a) H')
/-- a row's mould that is read: its name, room, drip -/
abbrev RM := Str × Int × Rat
def RmAt (K : PySem.W.Frag) (H : Hp) (v : V) (p : RM) : Prop := ∃ t dv, v = .ref t ∧ SqT K H t [.str p.1, .int p.2.1, dv] ∧ FQ K H dv p.2.2
/-- a mould that a row can have -/
structure RmOk (z : RM) : Prop where
  nm : Nm z.1
  r0 : 1 ≤ z.2.1
  r1 : z.2.1 ≤ 1000000
  d0 : 0 ≤ z.2.2
  d1 : z.2.2 < 1
  dd : z.2.2.den ≤ 12
def StOf (st : Str → Mo) (rs : List RM) : Prop := ∀ r ∈ rs, st r.1 = mo0 r.2.1 r.2.2
/-- the attributes of a row, as they are stored -/
def rfs (k m : Addr) : List (Str × V) := [("kettles", .ref k), ("moulds", .ref m)]
def sp_SameRow_init (C CR : Addr) : Sp := fun vs H Q _ => ∃ (x dx r dr k m : Addr), vs = [.ref x, .ref r] ∧ H x = some (.ins C dx []) ∧ H r = some (.ins CR dr (rfs k m)) ∧ ∀ H', Fr x H H' → (∃ o, H' x = some o ∧ Chg o) → Q .non H'
def sp_Moulds_init (K : PySem.W.Frag) (CO CM CR : Addr) : Sp := fun vs H Q _ => ∃ (p dx r dr k m : Addr) (xs : List V) (rs : List RM), vs = [.ref p, .ref r] ∧ H p = some (.ins CO dx []) ∧ H r = some (.ins CR dr (rfs k m)) ∧ SqT K H m xs ∧ xs.length = rs.length ∧ (∀ (i : Nat) (v : V) (z : RM), xs[i]? = some v → rs[i]? = some z → RmAt K H v z) ∧ (rs.map (·.1)).Nodup ∧ rs.length ≤ 1000 ∧
  ∀ A st H', A.p = p → MouldsAt K CO CM H' A (rs.map (·.1)) st 0 0 [] → StOf st rs → Off K (· = p) H H' → (∀ a, A.R (rs.map (·.1)) a → a = p ∨ Nw H a) → Nw H A.t → Q .non H'
/-! the law's own book of moulds -/
structure LAd where
  m : Addr
  rm : Addr
  dp : Addr
  sg : Addr
  wt : Addr
  dr : Addr
  lv : Addr
  s : Str → Addr
  /-- the order of its words: as a copy has them -/
  o : Bool
def LAd.R (A : LAd) (nms : List Str) : Addr → Prop := fun a => a = A.m ∨ a = A.sg ∨ a = A.wt ∨ a = A.dr ∨ a = A.lv ∨ ∃ x ∈ nms, a = A.s x
/-- how much of the sugar that was poured is in it -/
def Mo.left (m : Mo) : Rat := if m.cur = true then 1 - m.drip else 1
def mkv (A : LAd) (vv : V) : List (Key × V) := match A.o with
  | false => [(kN "room", .ref A.rm), (kN "drip", .ref A.dp), (kN "sugar", .ref A.sg), (kN "water", .ref A.wt), (kN "dry", .ref A.dr), (kN "vat", vv), (kN "loaves", .ref A.lv)]
  | true => [(kN "room", .ref A.rm), (kN "drip", .ref A.dp), (kN "water", .ref A.wt), (kN "dry", .ref A.dr), (kN "sugar", .ref A.sg), (kN "vat", vv), (kN "loaves", .ref A.lv)]
/-- the sugar of one mould, by strikes -/
def SugAt (K : PySem.W.Frag) (H : Hp) (a : Addr) (m : Mo) : Prop := ∃ f : Int → V, H a = some (.dK (byK kI m.ks f)) ∧ ∀ k ∈ m.ks, FQ K H (f k) (m.q k * m.left)
structure LawAt (K : PySem.W.Frag) (H : Hp) (A : LAd) (nms : List Str) (st : Str → Mo) (vs vw : Rat) (lds : List PyData) : Prop where
  m : ∃ vv, H A.m = some (.dK (mkv A vv)) ∧ JQ K H vv vs vw
  rm : ∃ f, Rd H A.rm (.dK (byK kN nms f)) ∧ ∀ x ∈ nms, FQ K H (f x) ((st x).room : Rat)
  dp : ∃ f, Rd H A.dp (.dK (byK kN nms f)) ∧ ∀ x ∈ nms, FQ K H (f x) (st x).drip
  sg : H A.sg = some (.dK (byK kN nms fun x => .ref (A.s x)))
  sx : ∀ x ∈ nms, SugAt K H (A.s x) (st x)
  wt : ∃ f, H A.wt = some (.dK (byK kN nms f)) ∧ ∀ x ∈ nms, FQ K H (f x) (st x).w
  dr : H A.dr = some (.dK (byK kN nms fun x => .bl (st x).cur))
  lv : ∃ lvs, H A.lv = some (.lst lvs) ∧ lvs.length ≤ 50000 ∧ DtuAll K H 5 lvs lds
  si : ∀ x ∈ nms, ∀ y ∈ nms, A.s x = A.s y → x = y
  nd : [A.m, A.rm, A.dp, A.sg, A.wt, A.dr].Nodup
  sn : ∀ x ∈ nms, A.s x ∉ [A.m, A.rm, A.dp, A.sg, A.wt, A.dr]
  ln : nms.length ≤ 50000
section
variable {K : PySem.W.Frag} {H H' : Hp} {A : LAd} {nms : List Str} {st st' : Str → Mo} {vs vw : Rat} {lds : List PyData} {R : Addr → Prop}
set_option Elab.async true in
theorem SugAt.off {a : Addr} {m : Mo} (h : SugAt K H a m) (o : Off K R H H') (n : ¬ R a) : SugAt K H' a m := by
  obtain ⟨f, h1, h2⟩ := h
  exact ⟨f, o.dK n h1, fun k hk => (h2 k hk).tk o.tk⟩
  in #guard_msgs (pass all) in example : True := trivial
set_option Elab.async true in
theorem LawAt.off (h : LawAt K H A nms st vs vw lds) (o : Off K R H H') (n : ∀ a, A.R nms a → ¬ R a) (n1 : ¬ R A.rm) (n2 : ¬ R A.dp) : LawAt K H' A nms st vs vw lds := by
  obtain ⟨⟨vv, h1, h2⟩, ⟨f, h3, h4⟩, ⟨g, h5, h6⟩, h7, h8, ⟨w, h9, h10⟩, h11, ⟨l, h12, h13, h14⟩, si, nd, sn, ln⟩ := h
  exact ⟨⟨vv, o.dK (n _ (.inl rfl)) h1, h2.tk o.tk⟩, ⟨f, o.rd n1 h3 (fun _ z => by cases z), fun x hx => (h4 x hx).tk o.tk⟩, ⟨g, o.rd n2 h5 (fun _ z => by cases z), fun x hx => (h6 x hx).tk o.tk⟩, o.dK (n _ (.inr (.inl rfl))) h7, fun x hx => (h8 x hx).off o (n _ (.inr (.inr (.inr (.inr (.inr ⟨x, hx, rfl⟩)))))), ⟨w, o.dK (n _ (.inr (.inr (.inl rfl)))) h9, fun x hx => (h10 x hx).tk o.tk⟩, o.dK (n _ (.inr (.inr (.inr (.inl rfl))))) h11, ⟨l, o.lst (n _ (.inr (.inr (.inr (.inr (.inl rfl)))))) h12, h13, h14.tk o.tk⟩, si, nd, sn, ln⟩
  in #guard_msgs (pass all) in example : True := trivial
set_option Elab.async true in
theorem LawAt.rebuild (h : LawAt K H A nms st vs vw lds) {x : Str} (hx : x ∈ nms) {m : Mo} {vs2 vw2 : Rat} (o : Off K (fun a => a = A.s x ∨ a = A.wt ∨ a = A.dr ∨ a = A.m) H H') (hm : ∃ vv, H' A.m = some (.dK (mkv A vv)) ∧ JQ K H' vv vs2 vw2) (hs : SugAt K H' (A.s x) m)
    (hw : ∃ f, H' A.wt = some (.dK (byK kN nms f)) ∧ ∀ y ∈ nms, FQ K H' (f y) (set1 st x m y).w) (hd : H' A.dr = some (.dK (byK kN nms fun y => .bl (set1 st x m y).cur))) (e1 : m.room = (st x).room) (e2 : m.drip = (st x).drip) : LawAt K H' A nms (set1 st x m) vs2 vw2 lds := by
  obtain ⟨⟨vv, h1, h2⟩, ⟨f, h3, h4⟩, ⟨g, h5, h6⟩, h7, h8, ⟨w, h9, h10⟩, h11, ⟨l, h12, h13, h14⟩, si, nd, sn, ln⟩ := h
  have nx := sn x hx
  simp only [List.mem_cons, List.not_mem_nil, or_false, not_or] at nx
  simp only [List.nodup_cons, List.mem_cons, List.not_mem_nil, or_false, not_or, List.nodup_nil, and_true, not_false_iff] at nd
  have nd0 := nd
  obtain ⟨⟨a1, a2, a3, a4, a5⟩, ⟨b1, b2, b3, b4⟩, ⟨c1, c2, c3⟩, ⟨d1, d2⟩, e5⟩ := nd
  obtain ⟨x1, x2, x3, x4, x5, x6⟩ := nx
  have ro : ∀ y, (set1 st x m y).room = (st y).room := fun y => by
    by_cases e : y = x
    · rw [e, set1_same, e1]
    · rw [set1_ne e]
  have di : ∀ y, (set1 st x m y).drip = (st y).drip := fun y => by
    by_cases e : y = x
    · rw [e, set1_same, e2]
    · rw [set1_ne e]
  refine ⟨hm, ⟨f, o.rd (fun z => ?_) h3 (fun _ z => by cases z), fun y hy => by rw [ro]; exact (h4 y hy).tk o.tk⟩, ⟨g, o.rd (fun z => ?_) h5 (fun _ z => by cases z), fun y hy => by rw [di]; exact (h6 y hy).tk o.tk⟩, o.dK (fun z => ?_) h7, fun y hy => ?_, hw, hd, ⟨l, o.lst (fun z => ?_) h12, h13, h14.tk o.tk⟩, si, by
    simp only [List.nodup_cons, List.mem_cons, List.not_mem_nil, or_false, not_or, List.nodup_nil, and_true, not_false_iff]
    exact nd0, sn, ln⟩
  · rcases z with z | z | z | z
    · exact x2 z.symm
    · exact b3 z
    · exact b4 z
    · exact a1 z.symm
  · rcases z with z | z | z | z
    · exact x3 z.symm
    · exact c2 z
    · exact c3 z
    · exact a2 z.symm
  · rcases z with z | z | z | z
    · exact x4 z.symm
    · exact d1 z
    · exact d2 z
    · exact a3 z.symm
  · by_cases e : y = x
    · subst e
      rw [set1_same]
      exact hs
    · rw [set1_ne e]
      have ny := sn y hy
      simp only [List.mem_cons, List.not_mem_nil, or_false, not_or] at ny
      refine (h8 y hy).off o (fun z => ?_)
      rcases z with z | z | z | z
      · exact e (si y hy x hx z)
      · exact ny.2.2.2.2.1 z
      · exact ny.2.2.2.2.2 z
      · exact ny.1 z
  · obtain ⟨fx, k1, _⟩ := h8 x hx
    rcases z with z | z | z | z
    · rw [z, k1] at h12; cases h12
    · rw [z, h9] at h12; cases h12
    · rw [z, h11] at h12; cases h12
    · rw [z, h1] at h12; cases h12
  in #guard_msgs (pass all) in example : True := trivial
end
section
variable {H : Hp} {A : LAd} {vv : V}
end
def sp_l_new (K : PySem.W.Frag) (CR : Addr) : Sp := fun vs H Q _ => ∃ (r dr k m : Addr) (xs : List V) (rs : List RM), vs = [.ref r] ∧ H r = some (.ins CR dr (rfs k m)) ∧ SqT K H m xs ∧ xs.length = rs.length ∧ (∀ (i : Nat) (v : V) (z : RM), xs[i]? = some v → rs[i]? = some z → RmAt K H v z) ∧ (rs.map (·.1)).Nodup ∧ rs.length ≤ 1000 ∧
  ∀ A st H', LawAt K H' A (rs.map (·.1)) st 0 0 [] → (∃ kvs, H' A.rm = some (.dK kvs)) → StOf st rs → Off K (fun _ => False) H H' → (∀ a, A.R (rs.map (·.1)) a → Nw H a) → Nw H A.rm → Nw H A.dp → Q (.ref A.m) H'
def sp_l_inside (K : PySem.W.Frag) : Sp := fun vs H Q _ => ∃ (A : LAd) (nms : List Str) (st : Str → Mo) (v1 v2 : Rat) (lds : List PyData) (x : Str), vs = [.ref A.m, .str x] ∧ LawAt K H A nms st v1 v2 lds ∧ x ∈ nms ∧ AddOk ((st x).ks.map fun k => (st x).q k * (st x).left) ∧ (∀ k ∈ (st x).ks, Big ((st x).q k * (st x).left)) ∧
  ∀ a H', Same H H' → JuQ K H' a ((st x).tot * (st x).left) (st x).w → Q (.ref a) H'
/-- what the law reckons with fits, and is what the program holds -/
structure Mo.Fit2 (m : Mo) : Prop extends m.Fit where
  add2 : AddOk (m.ks.map fun k => m.q k * m.left)
  big2 : ∀ k ∈ m.ks, Big (m.q k * m.left)
  bt : Big (m.tot * m.left)
  lf : m.left ≠ 0
  stay : Big (1 - m.drip)
  pos : m.ks ≠ [] → 0 < m.tot * m.left
  sum : m.s = m.tot * m.left
def sp_l_bears (K : PySem.W.Frag) : Sp := fun vs H Q _ => ∃ (A : LAd) (nms : List Str) (st : Str → Mo) (v1 v2 : Rat) (lds : List PyData) (x : Str), vs = [.ref A.m, .str x] ∧ LawAt K H A nms st v1 v2 lds ∧ x ∈ nms ∧ (st x).Fit2 ∧ ∀ a H', Same H H' → Dtu K H' 4 (.ref a) (st x).shd → Q (.ref a) H'
def refD (nm : Str) (x : Str) : PyData := .tuple [.str "refused", .str nm, .str x]
def sp_l_drain (K : PySem.W.Frag) : Sp := fun vs H Q _ => ∃ (A : LAd) (nms : List Str) (st : Str → Mo) (v1 v2 : Rat) (lds : List PyData) (x : Str), vs = [.ref A.m, .str x] ∧ LawAt K H A nms st v1 v2 lds ∧ PyData.canLay0 (.str x) = true ∧ (x ∈ nms → (st x).Fit2) ∧ Big v1 ∧ Big v2 ∧
  (x ∉ nms → ∀ a H', Same H H' → Dtu K H' 3 (.ref a) (refD "NoMould" x) → Q (.ref a) H') ∧ (x ∈ nms → (st x).ks = [] → ∀ a H', Same H H' → Dtu K H' 3 (.ref a) (refD "Empty" x) → Q (.ref a) H') ∧ (x ∈ nms → (st x).ks ≠ [] → (st x).cur = true → ∀ a H', Same H H' → Dtu K H' 3 (.ref a) (refD "Cured" x) → Q (.ref a) H') ∧
  (x ∈ nms → (st x).ks ≠ [] → (st x).cur = false → ∀ a H', LawAt K H' A nms (set1 st x (st x).drained) (v1 + (st x).s * (st x).drip) (v2 + (st x).w) lds → JuQ K H' a ((st x).s * (st x).drip) (st x).w → Off K (A.R nms) H H' → Q (.ref a) H')
def sp_l_knock (K : PySem.W.Frag) : Sp := fun vs H Q _ => ∃ (A : LAd) (nms : List Str) (st : Str → Mo) (v1 v2 : Rat) (lds : List PyData) (x : Str), vs = [.ref A.m, .str x] ∧ LawAt K H A nms st v1 v2 lds ∧ PyData.canLay0 (.str x) = true ∧ (x ∈ nms → (st x).Fit2) ∧ (x ∈ nms → (st x).cur = true → (st x).w = 0) ∧ lds.length < 50000 ∧
  (x ∉ nms → ∀ a H', Same H H' → Dtu K H' 3 (.ref a) (refD "NoMould" x) → Q (.ref a) H') ∧ (x ∈ nms → (st x).ks = [] → ∀ a H', Same H H' → Dtu K H' 3 (.ref a) (refD "Empty" x) → Q (.ref a) H') ∧ (x ∈ nms → (st x).ks ≠ [] → (st x).cur = false → ∀ a H', Same H H' → Dtu K H' 3 (.ref a) (refD "NotCured" x) → Q (.ref a) H') ∧
  (x ∈ nms → (st x).ks ≠ [] → (st x).cur = true → ∀ a g H', H g = none → LawAt K H' { A with s := set1 A.s x g } nms (set1 st x (st x).cleared) v1 v2 (lds ++ [loafD x (st x)]) → Dtu K H' 5 (.ref a) (.tuple [dq (st x).s, (st x).shd]) → Off K (A.R nms) H H' → Q (.ref a) H')
/-! the program's moulds beside the law's book, the box of draws: where each stands -/
def Dm (A : MAd) (B : LAd) (b : Addr) (nms : List Str) (a : Addr) : Prop := A.R nms a ∨ a = A.t ∨ B.R nms a ∨ a = B.rm ∨ a = B.dp ∨ a = b
structure W2 (K : PySem.W.Frag) (CO CM : Addr) (H0 H : Hp) (b : Addr) (n : Nat) (A : MAd) (B : LAd) (nms : List Str) (st stL : Str → Mo) (v1 v2 u1 u2 : Rat) (lds ldt : List PyData) : Prop where
  mo : MouldsAt K CO CM H A nms st v1 v2 lds
  la : LawAt K H B nms stL u1 u2 ldt
  bx : BoxAt H b n
  rm : ∃ kvs, H B.rm = some (.dK kvs)
  oH : Off K (fun _ => False) H0 H
  nw : ∀ a, Dm A B b nms a → Nw H0 a
  d1 : ∀ a, A.R nms a → ¬ B.R nms a ∧ a ≠ B.rm ∧ a ≠ B.dp ∧ a ≠ b
  d2 : ¬ B.R nms A.t ∧ A.t ≠ b ∧ A.t ≠ B.rm
  d3 : ∀ a, B.R nms a → a ≠ b
  d4 : B.rm ≠ b ∧ B.dp ≠ b
section
variable {K : PySem.W.Frag} {CO CM : Addr} {H0 H H' : Hp} {b : Addr} {n n' : Nat} {A : MAd} {B : LAd} {nms : List Str} {st stL st' : Str → Mo} {v1 v2 u1 u2 w1 w2 : Rat} {lds ldt ld' : List PyData} {R : Addr → Prop}
set_option Elab.async true in
theorem LawAt.nrm (h : LawAt K H B nms st v1 v2 lds) : ¬ B.R nms B.rm ∧ ¬ B.R nms B.dp := by
  obtain ⟨_, ⟨f, h3, _⟩, ⟨g, h5, _⟩, _, _, _, _, ⟨l, h12, _⟩, _, nd, sn, _⟩ := h
  simp only [List.nodup_cons, List.mem_cons, List.not_mem_nil, or_false, not_or, List.nodup_nil, and_true, not_false_iff] at nd
  obtain ⟨⟨a1, a2, a3, a4, a5⟩, ⟨b1, b2, b3, b4⟩, ⟨c1, c2, c3⟩, ⟨d1, d2⟩, e5⟩ := nd
  have nl : ∀ {c : Addr} {kvs : List (Key × V)}, Rd H c (.dK kvs) → c ≠ B.lv := fun k z => by
    rcases k with k | ⟨ob, k⟩ <;> (rw [z, h12] at k; cases k)
  constructor
  · intro z
    rcases z with z | z | z | z | z | ⟨x, hx, z⟩
    · exact a1 z.symm
    · exact b2 z
    · exact b3 z
    · exact b4 z
    · exact nl h3 z
    · exact sn x hx (by rw [← z]; simp)
  · intro z
    rcases z with z | z | z | z | z | ⟨x, hx, z⟩
    · exact a2 z.symm
    · exact c1 z
    · exact c2 z
    · exact c3 z
    · exact nl h5 z
    · exact sn x hx (by rw [← z]; simp)
  in #guard_msgs (pass all) in example : True := trivial
set_option Elab.async true in
theorem W2.prog (h : W2 K CO CM H0 H b n A B nms st stL v1 v2 u1 u2 lds ldt) (o : Off K (A.R nms) H H') (m : MouldsAt K CO CM H' A nms st' w1 w2 ld') : W2 K CO CM H0 H' b n A B nms st' stL w1 w2 u1 u2 ld' ldt := by
  obtain ⟨kvs, e⟩ := h.rm
  exact ⟨m, h.la.off o (fun a r z => (h.d1 a z).1 r) (fun z => (h.d1 _ z).2.1 rfl) (fun z => (h.d1 _ z).2.2.1 rfl), o.boxAt (fun z => (h.d1 _ z).2.2.2 rfl) h.bx, ⟨kvs, o.dK (fun z => (h.d1 _ z).2.1 rfl) e⟩, h.oH.trans o (fun a r => .inr (h.nw a (.inl r))), h.nw, h.d1, h.d2, h.d3, h.d4⟩
  in #guard_msgs (pass all) in example : True := trivial
set_option Elab.async true in
theorem W2.law (h : W2 K CO CM H0 H b n A B nms st stL v1 v2 u1 u2 lds ldt) (o : Off K (B.R nms) H H') (l : LawAt K H' B nms st' w1 w2 ld') : W2 K CO CM H0 H' b n A B nms st st' v1 v2 w1 w2 lds ld' := by
  obtain ⟨kvs, e⟩ := h.rm
  exact ⟨h.mo.off o (fun a r => (h.d1 a r).1) h.d2.1, l, o.boxAt (fun z => h.d3 _ z rfl) h.bx, ⟨kvs, o.dK h.la.nrm.1 e⟩, h.oH.trans o (fun a r => .inr (h.nw a (.inr (.inr (.inl r))))), h.nw, h.d1, h.d2, h.d3, h.d4⟩
  in #guard_msgs (pass all) in example : True := trivial
end
/-- a juice with sugar -/
structure JuOk (s w : Rat) : Prop where
  s0 : 0 < s
  s1 : s ≤ 1000000
  w0 : 0 ≤ w
  w1 : w ≤ 1000000
  sd : Dv 960 s
  wd : Dv 413 w
end KR
/-! ### deeds on moulds: a share that can be drawn, a < b <= c <= d tested -/
namespace KR
open PySem PySem.Spec PyProof.Rows L2
section
variable {X : Cx} {a b c d : Expr} {ta tb tc td : TE} {pos : Pos}
set_option Elab.async true in
theorem pt_chain3 {op op' op2 : CmpOp} {r r' r2 : R2} (ho : OpR X (compareOp op) r) (ho' : OpR X (compareOp op') r') (ho2 : OpR X (compareOp op2) r2) (ha : PE X a ta) (hb : PE X b tb) (hc : PE X c tc) (hd : PE X d td)
    (hm : lastMarks [op, op', op2] [b, c, d] = false := by with_unfolding_all rfl) : PT X (.Compare a [op, op', op2] [b, c, d] pos) (tTest (tChain3 r r' r2 ta tb tc td)) := by
  refine ⟨fun pins s σ H Q I h => ?_⟩
  refine isTrue_chain (thn (ha.run pins s σ H _ I h) fun v s1 ⟨x, H1, I1, r1, q1⟩ => test_link (thn (hb.run pins s1 σ H1 _ I1 q1) fun u s2 ⟨y, H2, I2, r2', q2⟩ => thn (ho pins s2 σ H2 x y v u _ I2 r1 r2' q2) fun e s3 ⟨z, H3, I3, r3, k, ez, q3⟩ => ?_)) hm
  subst ez
  cases r3
  refine wpAny_truthy_bool ?_
  cases k with
  | false =>
    obtain ⟨k', e', q'⟩ := q3
    cases e'
    exact ite_ff ⟨H3, I3, q'⟩
  | true =>
    refine ite_tt (test_link (thn (hc.run pins s3 σ H3 _ I3 q3) fun u2 s4 ⟨y2, H4, I4, r4, q4⟩ => thn (ho' pins s4 σ H4 y y2 u u2 _ I4 r2' r4 q4) fun e2 s5 ⟨z2, H5, I5, r5, k2, ez2, q5⟩ => ?_))
    subst ez2
    cases r5
    refine wpAny_truthy_bool ?_
    cases k2 with
    | false =>
      obtain ⟨k', e', q'⟩ := q5
      cases e'
      exact ite_ff ⟨H5, I5, q'⟩
    | true =>
      refine ite_tt (test_last (thn (hd.run pins s5 σ H5 _ I5 q5) fun u3 s6 ⟨y3, H6, I6, r6, q6⟩ => thn (ho2 pins s6 σ H6 y2 y3 u2 u3 _ I6 r4 r6 q6) fun d' s7 ⟨z3, H7, I7, r7, k3, e3, q7⟩ => ?_))
      subst e3
      cases r7
      exact wpAny_truthy_bool ⟨H7, I7, q7⟩
  in #guard_msgs (pass all) in example : True := trivial
end
set_option Elab.async true in
theorem le_one_of {q : Rat} (h : q ≤ 1) : q.num ≤ (q.den : Int) := by
  rw [Rat.le_iff] at h
  have e1 : (1 : Rat).num = 1 := rfl
  have e2 : ((1 : Rat).den : Int) = 1 := rfl
  rw [e1, e2] at h
  omega
  in #guard_msgs (pass all) in example : True := trivial
/-- a share that can be drawn -/
def ShOk (t : Rat) : Prop := 0 < t.num ∧ t.num ≤ (t.den : Int) ∧ (t.den : Int) ≤ 12
/-- a.update(b): dicts -/
def rUpdD : V → List V → Hp → VK → Prop := fun x vs H Q => ∃ (a b : Addr) (kvs more : List (Key × V)), x = .ref a ∧ vs = [.ref b] ∧ H a = some (.dK kvs) ∧ H b = some (.dK more) ∧ a ≠ b ∧ kvs.length + more.length ≤ sizeLine ∧ Q .non (upd H a (.dK (mergeK kvs more)))
def PoursAt (K : PySem.W.Frag) (H : Hp) (pvs : List V) (ps : List Pour) : Prop := pvs.length = ps.length ∧ ∀ (i : Nat) (v : V) (p : Pour), pvs[i]? = some v → ps[i]? = some p → PourAt K H v p
/-- one pour in the law's book -/
def lpour (k : Int) (S : Str → Mo) (p : Pour) : Str → Mo := set1 S p.1 (((S p.1).poured ((S p.1).s + p.2.1) ((S p.1).w + p.2.2)).bear k p.2.1)
def lfold (st : Str → Mo) (k : Int) (ps : List Pour) : Str → Mo := ps.foldl (lpour k) st
/-- what the law reckons with in a filling -/
structure LFit (m : Mo) : Prop where
  add : AddOk (m.ks.map fun k => m.q k * m.left)
  big : ∀ k ∈ m.ks, Big (m.q k * m.left)
  s : Big m.s
  w : Big m.w
  sw : Big (m.s + m.w)
  len : m.ks.length < 1000
  room : Big (m.room : Rat)
  sum : m.s = m.tot * m.left
end KR
/-! ### a method that may raise, called within a try -/
namespace KR
open PySem PySem.Spec PyProof.Rows L2
section
variable {X : Cx} {CX : CXT} {k : Nat} {f C : Addr} {fd : FuncData} {ps : List Str} {sp : Sp} {E : L2.St → XK} {m : Str} {pos apos : Pos} {e o : Expr} {es : List Expr} {ta : TE} {t : TA}
/-- o.m(..), its refusals handed on with the slots -/
def tMethX (C : Addr) (m : Str) (sp : Sp) (E : L2.St → XK) (ta : TE) (t : TA) : TE := fun σ H Q => ta σ H fun x H1 => ∃ a dx fs, x = .ref a ∧ H1 a = some (.ins C dx fs) ∧ fs.lookup m = none ∧ t σ H1 fun vs H2 => sp (x :: vs) H2 Q (E σ)
end
/-- a mould's name in a pour: one of the row's, or the stranger's -/
def PNm (nms : List Str) (x : Str) : Prop := x ∈ nms ∨ x = "qmould"
/-- a pour that the law makes -/
def PourOk (nms : List Str) (p : Pour) : Prop := PNm nms p.1 ∧ JuOk p.2.1 p.2.2
def pourD (p : Pour) : PyData := .tuple [.str p.1, dj p.2.1 p.2.2]
/-- a juice with sugar, of some more bottoms -/
structure JuOk2 (s w : Rat) : Prop where
  s0 : 0 < s
  s1 : s ≤ 1000000
  w0 : 0 ≤ w
  w1 : w ≤ 1000000
  sd : Dv 6720 s
  wd : Dv 24780 w
end KR
/-! ### things that stand apart: each has its own part of the heap -/
namespace KR
open PySem PySem.Spec PyProof.Rows L2
structure Th (K : PySem.W.Frag) where
  R : Addr → Prop
  ok : Hp → Prop
  off : ∀ {H H' : Hp} {R' : Addr → Prop}, ok H → Off K R' H H' → (∀ a, R a → ¬ R' a) → ok H'
  ex : ∀ {H : Hp} {a : Addr}, ok H → R a → ∃ o, H a = some o ∧ ∀ q, o ≠ .tbl q
structure Wd (K : PySem.W.Frag) (H0 H : Hp) (ts : List (Th K)) : Prop where
  ok : ∀ (i : Nat) (t : Th K), ts[i]? = some t → t.ok H
  dj : ∀ (i j : Nat) (s t : Th K), ts[i]? = some s → ts[j]? = some t → i ≠ j → ∀ a, s.R a → ¬ t.R a
  nw : ∀ (i : Nat) (t : Th K), ts[i]? = some t → ∀ a, t.R a → Nw H0 a
  oH : Off K (fun _ => False) H0 H
section
variable {K : PySem.W.Frag} {H0 H H' : Hp} {ts : List (Th K)} {t t' s : Th K} {R : Addr → Prop} {i j : Nat} {a b l : Addr}
set_option Elab.async true in
theorem Wd.start (o : Off K (fun _ => False) H0 H) : Wd K H0 H [] := ⟨fun i t h => by simp at h, fun i j s t h => by simp at h, fun i t h => by simp at h, o⟩
  in #guard_msgs (pass all) in example : True := trivial
set_option Elab.async true in
theorem Wd.out (w : Wd K H0 H ts) (e : ts[i]? = some t) (n : Nw H a) : ¬ t.R a := fun r => by
  obtain ⟨o, h, c⟩ := t.ex (w.ok i t e) r
  obtain ⟨q, z⟩ := n o h
  exact c q z
  in #guard_msgs (pass all) in example : True := trivial
set_option Elab.async true in
theorem Wd.upd (w : Wd K H0 H ts) (e : ts[i]? = some t) (o : Off K R H H') (r : ∀ a, R a → t.R a) (k : t'.ok H') (n : ∀ a, t'.R a → t.R a ∨ Nw H a) : Wd K H0 H' (ts.set i t') := by
  have li := (List.getElem?_eq_some_iff.mp e).1
  have cs : ∀ {j : Nat} {u : Th K}, (ts.set i t')[j]? = some u → (j = i ∧ u = t') ∨ (j ≠ i ∧ ts[j]? = some u) := fun {j u} h => by
    rw [List.getElem?_set] at h
    by_cases c : i = j
    · rw [if_pos c] at h
      rw [if_pos li] at h
      exact .inl ⟨c.symm, (Option.some.inj h).symm⟩
    · rw [if_neg c] at h
      exact .inr ⟨fun z => c z.symm, h⟩
  refine ⟨fun j u h => ?_, fun j m u v h1 h2 ne a ra rb => ?_, fun j u h a ra => ?_, w.oH.trans o (fun a ra => .inr (w.nw i t e a (r a ra)))⟩
  · rcases cs h with ⟨_, rfl⟩ | ⟨ne, h⟩
    · exact k
    · exact u.off (w.ok j u h) o fun a ra rb => w.dj j i u t h e ne a ra (r a rb)
  · rcases cs h1 with ⟨e1, rfl⟩ | ⟨n1, g1⟩
    · rcases cs h2 with ⟨e2, _⟩ | ⟨n2, g2⟩
      · exact ne (e1.trans e2.symm)
      · rcases n a ra with z | z
        · exact w.dj i m t v e g2 (fun c => n2 c.symm) a z rb
        · exact w.out g2 z rb
    · rcases cs h2 with ⟨e2, rfl⟩ | ⟨n2, g2⟩
      · rcases n a rb with z | z
        · exact w.dj j i u t g1 e n1 a ra z
        · exact w.out g1 z ra
      · exact w.dj j m u v g1 g2 ne a ra rb
  · rcases cs h with ⟨_, rfl⟩ | ⟨ne, h⟩
    · exact (n a ra).elim (w.nw i t e a) fun z => Nw.back w.oH id z
    · exact w.nw j u h a ra
  in #guard_msgs (pass all) in example : True := trivial
set_option Elab.async true in
theorem Wd.keep (w : Wd K H0 H ts) (o : Off K R H H') (r : ∀ a, R a → Nw H a) : Wd K H0 H' ts :=
  ⟨fun j u h => u.off (w.ok j u h) o fun a ra rb => w.out h (r a rb) ra, w.dj, w.nw, w.oH.trans o fun a ra => .inr (Nw.back w.oH id (r a ra))⟩
  in #guard_msgs (pass all) in example : True := trivial
set_option Elab.async true in
theorem Wd.same (w : Wd K H0 H ts) (s : Same H H') : Wd K H0 H' ts := w.keep (R := fun _ => False) (.same s) fun _ z => z.elim
  in #guard_msgs (pass all) in example : True := trivial
set_option Elab.async true in
theorem Wd.add (w : Wd K H0 H ts) (o : Off K R H H') (r : ∀ a, R a → Nw H a) (k : t.ok H') (n : ∀ a, t.R a → Nw H a) : Wd K H0 H' (t :: ts) := by
  have w' := w.keep o r
  refine ⟨fun j u h => ?_, fun j m u v h1 h2 ne a ra rb => ?_, fun j u h a ra => ?_, w'.oH⟩
  · match j, h with
    | 0, h => cases h; exact k
    | j + 1, h => exact w'.ok j u h
  · match j, m, h1, h2 with
    | 0, 0, _, _ => exact ne rfl
    | 0, m + 1, h1, h2 => cases h1; exact w.out h2 (n a ra) rb
    | j + 1, 0, h1, h2 => cases h2; exact w.out h1 (n a rb) ra
    | j + 1, m + 1, h1, h2 => exact w.dj j m u v h1 h2 (fun e => ne (by rw [e])) a ra rb
  · match j, h with
    | 0, h => cases h; exact Nw.back w.oH id (n a ra)
    | j + 1, h => exact w.nw j u h a ra
  in #guard_msgs (pass all) in example : True := trivial
/-- the box of draws -/
def tBox (K : PySem.W.Frag) (b : Addr) (n : Nat) : Th K := ⟨(· = b), fun H => BoxAt H b n, fun h o r => o.boxAt (r _ rfl) h, fun h r => by
  obtain ⟨xs, e⟩ := box_lst h
  exact ⟨_, by rw [r]; exact e, fun _ z => by cases z⟩⟩
/-- a list -/
def tLst (K : PySem.W.Frag) (l : Addr) (xs : List V) : Th K := ⟨(· = l), fun H => H l = some (.lst xs), fun h o r => o.lst (r _ rfl) h, fun h r => ⟨.lst xs, by rw [r]; exact h, fun _ z => by cases z⟩⟩
set_option Elab.async true in
theorem Wd.box {n n' : Nat} (w : Wd K H0 H ts) (e : ts[i]? = some (tBox K b n)) (f : Fr b H H') (k : BoxAt H' b n') : Wd K H0 H' (ts.set i (tBox K b n')) := w.upd e (R := (· = b)) (.box (w.ok i _ e) f) (fun a z => z) k fun a z => .inl z
  in #guard_msgs (pass all) in example : True := trivial
set_option Elab.async true in
theorem Wd.boxO {n n' : Nat} (w : Wd K H0 H ts) (e : ts[i]? = some (tBox K b n)) (o : Off K (· = b) H H') (k : BoxAt H' b n') : Wd K H0 H' (ts.set i (tBox K b n')) := w.upd e (R := (· = b)) o (fun a z => z) k fun a z => .inl z
  in #guard_msgs (pass all) in example : True := trivial
end
end KR
/-! ### kettles: what a kettle, the kettles of a row, a law's own book of them hold -/
namespace KR
open PySem PySem.Spec PyProof.Rows L2
set_option Elab.async true in
theorem NOTH {K : PySem.W.Frag} {H : Hp} {C : Addr} (h : ∃ x y, ∀ H, SqT K H C [.ref x, .ref y] ∧ SqT K H x [.int 0, .int 1] ∧ SqT K H y [.int 0, .int 1]) : JuQ K H C 0 0 := by
  obtain ⟨x, y, k⟩ := h
  obtain ⟨h1, h2, h3⟩ := k H
  exact ⟨x, y, h1, h2, h3⟩
  in #guard_msgs (pass all) in example : True := trivial
theorem at3 {x y z u : V} {xs : List V} : atI (x :: y :: z :: u :: xs) 3 = some u := atI_nat (j := 3) rfl
theorem at4 {x y z u v : V} {xs : List V} : atI (x :: y :: z :: u :: v :: xs) 4 = some v := atI_nat (j := 4) rfl
set_option Elab.async true in
theorem same_none {H H' : Hp} {a : Addr} (s : Same H H') (h : H' a = none) : H a = none := by
  cases e : H a with
  | none => rfl
  | some o => rw [s _ _ e] at h; cases h
  in #guard_msgs (pass all) in example : True := trivial
def refu (w : Str) (d : PyData) : PyData := .tuple [.str "refused", .str w, d]
def toldD (d : PyData) : PyData := .tuple [.str "told", d]
/-- a refusal's tuple as the law makes it -/
def RefAt (K : PySem.W.Frag) (H : Hp) (Q : VK) (w : Str) (d : PyData) : Prop := ∀ a H', Same H H' → Dtu K H' 4 (.ref a) (refu w d) → Q (.ref a) H'
structure Ke where
  room : Int
  fire : Int
  mark : Rat
  s : Rat
  w : Rat
  on : Bool
structure KS where
  st : Str → Ke
  hour : Nat
  gone : Rat
def ke0 (r f : Int) (u : Rat) : Ke := ⟨r, f, u, 0, 0, true⟩
def kf (room fire : Int) (mv jv : V) (on : Bool) : List (Str × V) := [("room", .int room), ("fire", .int fire), ("mark", mv), ("juice", jv), ("at_work", .bl on)]
def kfs (rv : V) (t : Addr) (h : Int) (bv : V) : List (Str × V) := [("_row", rv), ("_table", .ref t), ("_hour", .int h), ("_boiled", bv)]
structure KCell (K : PySem.W.Frag) (C : Addr) (H : Hp) (c : Addr) (k : Ke) : Prop where
  at_ : ∃ dx mv jv, H c = some (.ins C dx (kf k.room k.fire mv jv k.on)) ∧ FQ K H mv k.mark ∧ JQ K H jv k.s k.w
set_option Elab.async true in
theorem KCell.off {K : PySem.W.Frag} {C : Addr} {H H' : Hp} {c : Addr} {k : Ke} {R : Addr → Prop} (h : KCell K C H c k) (o : Off K R H H') (nc : ¬ R c) : KCell K C H' c k := by
  obtain ⟨dx, mv, jv, h1, h2, h3⟩ := h
  exact ⟨dx, mv, jv, o.ins nc h1, h2.tk o.tk, h3.tk o.tk⟩
  in #guard_msgs (pass all) in example : True := trivial
structure KAd where
  p : Addr
  t : Addr
  c : Str → Addr
  rv : V
def KAd.R (A : KAd) (nms : List Str) : Addr → Prop := fun a => a = A.p ∨ ∃ x ∈ nms, a = A.c x
structure KettlesAt (K : PySem.W.Frag) (CO CK : Addr) (H : Hp) (A : KAd) (nms : List Str) (S : KS) : Prop where
  p : ∃ dx bv, H A.p = some (.ins CO dx (kfs A.rv A.t S.hour bv)) ∧ FQ K H bv S.gone
  t : H A.t = some (.dK (byK kN nms fun x => .ref (A.c x)))
  cell : ∀ x ∈ nms, KCell K CK H (A.c x) (S.st x)
  ci : ∀ x ∈ nms, ∀ y ∈ nms, A.c x = A.c y → x = y
  cp : ∀ x ∈ nms, A.c x ≠ A.p
def KS.put (S : KS) (x : Str) (k : Ke) : KS := ⟨set1 S.st x k, S.hour, S.gone⟩
section
variable {K : PySem.W.Frag} {CO CK : Addr} {H H' : Hp} {A : KAd} {nms : List Str} {S : KS} {R : Addr → Prop}
set_option Elab.async true in
theorem KettlesAt.off (h : KettlesAt K CO CK H A nms S) (o : Off K R H H') (n : ∀ a, A.R nms a → ¬ R a) (nt : ¬ R A.t) : KettlesAt K CO CK H' A nms S := by
  obtain ⟨⟨dx, bv, h1, h2⟩, ht, hc, ci, cp⟩ := h
  exact ⟨⟨dx, bv, o.ins (n _ (.inl rfl)) h1, h2.tk o.tk⟩, o.dK nt ht, fun x hx => (hc x hx).off o (n _ (.inr ⟨x, hx, rfl⟩)), ci, cp⟩
  in #guard_msgs (pass all) in example : True := trivial
set_option Elab.async true in
theorem KettlesAt.same (h : KettlesAt K CO CK H A nms S) (s : Same H H') : KettlesAt K CO CK H' A nms S := h.off (R := fun _ => False) (.same s) (fun _ _ => id) id
  in #guard_msgs (pass all) in example : True := trivial
set_option Elab.async true in
theorem KettlesAt.there (h : KettlesAt K CO CK H A nms S) {a : Addr} (r : A.R nms a) : ∃ o, H a = some o ∧ Chg o := by
  obtain ⟨⟨dx, bv, h1, h2⟩, ht, hc, _⟩ := h
  rcases r with rfl | ⟨x, hx, rfl⟩
  · exact ⟨_, h1, .ins⟩
  · obtain ⟨dx, mv, jv, h1, _⟩ := hc x hx
    exact ⟨_, h1, .ins⟩
  in #guard_msgs (pass all) in example : True := trivial
set_option Elab.async true in
theorem KettlesAt.tc (h : KettlesAt K CO CK H A nms S) {x : Str} (hx : x ∈ nms) : A.t ≠ A.c x := fun z => by
  obtain ⟨dx, mv, jv, h1, _⟩ := h.cell x hx
  have t := h.t
  rw [z, h1] at t
  cases t
  in #guard_msgs (pass all) in example : True := trivial
set_option Elab.async true in
theorem KettlesAt.tp (h : KettlesAt K CO CK H A nms S) : A.t ≠ A.p := fun z => by
  obtain ⟨dx, bv, h1, _⟩ := h.p
  have t := h.t
  rw [z, h1] at t
  cases t
  in #guard_msgs (pass all) in example : True := trivial
set_option Elab.async true in
/-- one kettle changed -/
theorem KettlesAt.set (h : KettlesAt K CO CK H A nms S) {x : Str} (hx : x ∈ nms) {k : Ke} (o : Off K (· = A.c x) H H') (hc : KCell K CK H' (A.c x) k) : KettlesAt K CO CK H' A nms (S.put x k) := by
  have nt := h.tc hx
  obtain ⟨⟨dx, bv, h1, h2⟩, ht, hcs, ci, cp⟩ := h
  refine ⟨⟨dx, bv, o.ins (fun z => cp x hx z.symm) h1, h2.tk o.tk⟩, o.dK nt ht, fun y hy => ?_, ci, cp⟩
  show KCell K CK H' (A.c y) (set1 S.st x k y)
  by_cases e : y = x
  · subst e
    rw [set1_same]
    exact hc
  · rw [set1_ne e]
    exact (hcs y hy).off o fun z => e (ci y hy x hx z)
  in #guard_msgs (pass all) in example : True := trivial
end
def KQ (A : KAd) (nms : List Str) (a : Addr) : Prop := A.R nms a ∨ a = A.t
def tKe (K : PySem.W.Frag) (CO CK : Addr) (A : KAd) (nms : List Str) (S : KS) : Th K := ⟨KQ A nms, fun H => KettlesAt K CO CK H A nms S, fun h o r => h.off o (fun a z => r a (.inl z)) (r _ (.inr rfl)), fun {H a} h r => by
  rcases r with r | r
  · obtain ⟨o, e, c⟩ := h.there r
    exact ⟨o, e, c.b⟩
  · rw [r]; exact ⟨_, h.t, fun _ z => by cases z⟩⟩
/-! the law's own book of kettles -/
structure LKA where
  a : Addr
  r : Addr
  c : Str → Addr
def skv (h : Int) (gv : V) (r : Addr) : List (Key × V) := [(kN "hour", .int h), (kN "gone", gv), (kN "rows", .ref r)]
structure LRow (K : PySem.W.Frag) (H : Hp) (c : Addr) (k : Ke) : Prop where
  at_ : ∃ mv sv wv, H c = some (.lst [.int k.room, .int k.fire, mv, sv, wv, .bl k.on]) ∧ FQ K H mv k.mark ∧ FQ K H sv k.s ∧ FQ K H wv k.w
set_option Elab.async true in
theorem LRow.off {K : PySem.W.Frag} {H H' : Hp} {c : Addr} {k : Ke} {R : Addr → Prop} (h : LRow K H c k) (o : Off K R H H') (nc : ¬ R c) : LRow K H' c k := by
  obtain ⟨mv, sv, wv, h1, h2, h3, h4⟩ := h
  exact ⟨mv, sv, wv, o.lst nc h1, h2.tk o.tk, h3.tk o.tk, h4.tk o.tk⟩
  in #guard_msgs (pass all) in example : True := trivial
def LKA.R (B : LKA) (nms : List Str) : Addr → Prop := fun a => a = B.a ∨ ∃ x ∈ nms, a = B.c x
structure LKAt (K : PySem.W.Frag) (H : Hp) (B : LKA) (nms : List Str) (S : KS) : Prop where
  a : ∃ gv, H B.a = some (.dK (skv S.hour gv B.r)) ∧ FQ K H gv S.gone
  r : H B.r = some (.dK (byK kN nms fun x => .ref (B.c x)))
  row : ∀ x ∈ nms, LRow K H (B.c x) (S.st x)
  ci : ∀ x ∈ nms, ∀ y ∈ nms, B.c x = B.c y → x = y
  ar : B.a ≠ B.r
  ln : nms.length ≤ 1000
section
variable {K : PySem.W.Frag} {H H' : Hp} {B : LKA} {nms : List Str} {S : KS} {R : Addr → Prop}
set_option Elab.async true in
theorem LKAt.off (h : LKAt K H B nms S) (o : Off K R H H') (n : ∀ a, B.R nms a → ¬ R a) (nr : ¬ R B.r) : LKAt K H' B nms S := by
  obtain ⟨⟨gv, h1, h2⟩, hr, hc, ci, ar, ln⟩ := h
  exact ⟨⟨gv, o.dK (n _ (.inl rfl)) h1, h2.tk o.tk⟩, o.dK nr hr, fun x hx => (hc x hx).off o (n _ (.inr ⟨x, hx, rfl⟩)), ci, ar, ln⟩
  in #guard_msgs (pass all) in example : True := trivial
set_option Elab.async true in
theorem LKAt.same (h : LKAt K H B nms S) (s : Same H H') : LKAt K H' B nms S := h.off (R := fun _ => False) (.same s) (fun _ _ => id) id
  in #guard_msgs (pass all) in example : True := trivial
set_option Elab.async true in
theorem LKAt.there (h : LKAt K H B nms S) {a : Addr} (r : B.R nms a) : ∃ o, H a = some o ∧ Chg o := by
  obtain ⟨⟨gv, h1, h2⟩, hr, hc, _⟩ := h
  rcases r with rfl | ⟨x, hx, rfl⟩
  · exact ⟨_, h1, .dK⟩
  · obtain ⟨mv, sv, wv, h1, _⟩ := hc x hx
    exact ⟨_, h1, .lst⟩
  in #guard_msgs (pass all) in example : True := trivial
set_option Elab.async true in
theorem LKAt.rc (h : LKAt K H B nms S) {x : Str} (hx : x ∈ nms) : B.r ≠ B.c x := fun z => by
  obtain ⟨mv, sv, wv, h1, _⟩ := h.row x hx
  have t := h.r
  rw [z, h1] at t
  cases t
  in #guard_msgs (pass all) in example : True := trivial
set_option Elab.async true in
theorem LKAt.ac (h : LKAt K H B nms S) {x : Str} (hx : x ∈ nms) : B.a ≠ B.c x := fun z => by
  obtain ⟨mv, sv, wv, h1, _⟩ := h.row x hx
  obtain ⟨gv, h2, _⟩ := h.a
  rw [z, h1] at h2
  cases h2
  in #guard_msgs (pass all) in example : True := trivial
set_option Elab.async true in
theorem LKAt.set (h : LKAt K H B nms S) {x : Str} (hx : x ∈ nms) {k : Ke} (o : Off K (· = B.c x) H H') (hc : LRow K H' (B.c x) k) : LKAt K H' B nms (S.put x k) := by
  have n1 := h.ac hx
  have n2 := h.rc hx
  obtain ⟨⟨gv, h1, h2⟩, hr, hcs, ci, ar, ln⟩ := h
  refine ⟨⟨gv, o.dK n1 h1, h2.tk o.tk⟩, o.dK n2 hr, fun y hy => ?_, ci, ar, ln⟩
  show LRow K H' (B.c y) (set1 S.st x k y)
  by_cases e : y = x
  · subst e
    rw [set1_same]
    exact hc
  · rw [set1_ne e]
    exact (hcs y hy).off o fun z => e (ci y hy x hx z)
  in #guard_msgs (pass all) in example : True := trivial
end
def LKQ (B : LKA) (nms : List Str) (a : Addr) : Prop := B.R nms a ∨ a = B.r
def tLk (K : PySem.W.Frag) (B : LKA) (nms : List Str) (S : KS) : Th K := ⟨LKQ B nms, fun H => LKAt K H B nms S, fun h o r => h.off o (fun a z => r a (.inl z)) (r _ (.inr rfl)), fun {H a} h r => by
  rcases r with r | r
  · obtain ⟨o, e, c⟩ := h.there r
    exact ⟨o, e, c.b⟩
  · rw [r]; exact ⟨_, h.r, fun _ z => by cases z⟩⟩
/-! boiling -/
def kb (h : Nat) (k : Ke) : Ke := if k.on = true then { k with w := boil k.s k.w k.fire k.mark ((h : Int) : Rat) } else k
/-- what is reckoned with where one kettle boils -/
structure KBig (k : Ke) (h : Nat) : Prop where
  s : Big k.s
  w : Big k.w
  u : Big k.mark
  hb : Big ((h : Int) : Rat)
  l : Big (wat k.s k.mark)
  fh : Big ((k.fire : Rat) * ((h : Int) : Rat))
  d : Big (k.w - (k.fire : Rat) * ((h : Int) : Rat))
  b : Big (boil k.s k.w k.fire k.mark ((h : Int) : Rat))
  g : Big (k.w - boil k.s k.w k.fire k.mark ((h : Int) : Rat))
  f : k.fire.natAbs < 2 ^ 14
  u0 : k.mark ≠ 0
  h9 : h < 2 ^ 60
def sp_wboil (K : PySem.W.Frag) : Sp := fun vs H Q _ => ∃ (j mk hr : Addr) (f : Int) (s w u h : Rat), vs = [.ref j, .int f, .ref mk, .ref hr] ∧ JuQ K H j s w ∧ FrQ K H mk u ∧ FrQ K H hr h ∧ Big s ∧ Big w ∧ Big u ∧ Big h ∧ Big (wat s u) ∧ Big ((f : Rat) * h) ∧ Big (w - (f : Rat) * h) ∧ f.natAbs < 2 ^ 14 ∧ u ≠ 0 ∧
  ∀ z H', Same H H' → JuQ K H' z s (boil s w f u h) → Q (.ref z) H'
def sp_wready (K : PySem.W.Frag) : Sp := fun vs H Q _ => ∃ (j mk : Addr) (f : Int) (s w u : Rat), vs = [.ref j, .int f, .ref mk] ∧ JuQ K H j s w ∧ FrQ K H mk u ∧ Big s ∧ Big w ∧ Big u ∧ Big (wat s u) ∧ Big (w - wat s u) ∧ f.natAbs < 2 ^ 14 ∧ u ≠ 0 ∧
  ∀ v H', Same H H' → OQ K H' v (ready s w f u) → Q v H'
def sp_wstr (K : PySem.W.Frag) : Sp := fun vs H Q _ => ∃ (x : Addr) (s w : Rat), vs = [.ref x] ∧ JuQ K H x s w ∧ Big s ∧ Big w ∧ Big (s + w) ∧ ∀ v H', Same H H' → OQ K H' v (stren s w) → Q v H'
def sp_Kettle_init (K : PySem.W.Frag) (C : Addr) : Sp := fun vs H Q _ => ∃ (c dx : Addr) (r f : Int) (mv : V) (u : Rat), vs = [.ref c, .int r, .int f, mv] ∧ H c = some (.ins C dx []) ∧ FQ K H mv u ∧ ∀ H', KCell K C H' c (ke0 r f u) → Off K (· = c) H H' → Q .non H'
def sp_Kettle_boil (K : PySem.W.Frag) (C : Addr) : Sp := fun vs H Q _ => ∃ (c : Addr) (k : Ke) (h : Nat), vs = [.ref c, .int h] ∧ KCell K C H c k ∧ KBig k h ∧ ∀ a H', KCell K C H' c { k with w := boil k.s k.w k.fire k.mark ((h : Int) : Rat) } → FrQ K H' a (k.w - boil k.s k.w k.fire k.mark ((h : Int) : Rat)) → Off K (· = c) H H' → Q (.ref a) H'
def just (k : Ke) : Bool := decide (stren k.s k.w = some k.mark)
def sp_Kettle_at (K : PySem.W.Frag) (C : Addr) : Sp := fun vs H Q _ => ∃ (c : Addr) (k : Ke), vs = [.ref c] ∧ KCell K C H c k ∧ Big k.s ∧ Big k.w ∧ Big (k.s + k.w) ∧ ∀ H', Same H H' → Q (.bl (just k)) H'
def rdy (k : Ke) : Option Rat := ready k.s k.w (if k.on = true then k.fire else 0) k.mark
def sp_Kettle_hours (K : PySem.W.Frag) (C : Addr) : Sp := fun vs H Q _ => ∃ (c : Addr) (k : Ke), vs = [.ref c] ∧ KCell K C H c k ∧ Big k.s ∧ Big k.w ∧ Big k.mark ∧ Big (wat k.s k.mark) ∧ Big (k.w - wat k.s k.mark) ∧ k.fire.natAbs < 2 ^ 14 ∧ k.mark ≠ 0 ∧ ∀ v H', Same H H' → OQ K H' v (rdy k) → Q v H'
/-- a row's kettle that is read: its name, room, fire, mark -/
abbrev RK := Str × Int × Int × Rat
def RkAt (K : PySem.W.Frag) (H : Hp) (v : V) (p : RK) : Prop := ∃ t dv, v = .ref t ∧ SqT K H t [.str p.1, .int p.2.1, .int p.2.2.1, dv] ∧ FQ K H dv p.2.2.2
set_option Elab.async true in
theorem RkAt.tk {K : PySem.W.Frag} {H H' : Hp} {v : V} {p : RK} (h : RkAt K H v p) (t : TK K H H') : RkAt K H' v p := by
  obtain ⟨a, j, e, h1, h2⟩ := h
  exact ⟨a, j, e, t _ _ h1, h2.tk t⟩
  in #guard_msgs (pass all) in example : True := trivial
def KtOf (st : Str → Ke) (rs : List RK) : Prop := ∀ r ∈ rs, st r.1 = ke0 r.2.1 r.2.2.1 r.2.2.2
/-- the row that kettles keep: their like is begun by it -/
def KRow (K : PySem.W.Frag) (CS : Addr) (H : Hp) (v : V) : Prop := ∃ (r dr k m : Addr) (xs : List V) (rs : List RK), v = .ref r ∧ H r = some (.ins CS dr (rfs k m)) ∧ SqT K H k xs ∧ xs.length = rs.length ∧ (∀ (i : Nat) (v : V) (z : RK), xs[i]? = some v → rs[i]? = some z → RkAt K H v z) ∧ (rs.map (·.1)).Nodup ∧ rs.length ≤ 1000
def sp_SameRow_init2 (K : PySem.W.Frag) (C : Addr) : Sp := fun vs H Q _ => ∃ (x dx r dr k m CR : Addr), vs = [.ref x, .ref r] ∧ H x = some (.ins C dx []) ∧ H r = some (.ins CR dr (rfs k m)) ∧ Cls K CR ∧ NoAttr K CR "kettles" ∧ NoAttr K CR "moulds" ∧ ∀ H', Fr x H H' → (∃ dx', H' x = some (.ins C dx' (rfs k m))) → Q .non H'
def sp_Kettles_init2 (K : PySem.W.Frag) (CO CK CS : Addr) : Sp := fun vs H Q _ => ∃ (p dx r dr k m CR : Addr) (xs : List V) (rs : List RK), vs = [.ref p, .ref r] ∧ H p = some (.ins CO dx []) ∧ H r = some (.ins CR dr (rfs k m)) ∧ Cls K CR ∧ NoAttr K CR "kettles" ∧ NoAttr K CR "moulds" ∧ SqT K H k xs ∧ xs.length = rs.length ∧ (∀ (i : Nat) (v : V) (z : RK), xs[i]? = some v → rs[i]? = some z → RkAt K H v z) ∧ (rs.map (·.1)).Nodup ∧ rs.length ≤ 1000 ∧
  ∀ A st H', A.p = p → KettlesAt K CO CK H' A (rs.map (·.1)) ⟨st, 0, 0⟩ → KRow K CS H' A.rv → KtOf st rs → Off K (· = p) H H' → (∀ a, KQ A (rs.map (·.1)) a → a = p ∨ Nw H a) → Q .non H'
/-- a kettle of its own that is just so -/
def sp_Kettle_twin (K : PySem.W.Frag) (C : Addr) : Sp := fun vs H Q _ => ∃ (c : Addr) (k : Ke), vs = [.ref c] ∧ KCell K C H c k ∧ ∀ c' H', KCell K C H' c' k → Off K (fun _ => False) H H' → Nw H c' → Q (.ref c') H'
def sp_Kettles_like (K : PySem.W.Frag) (CO CK CS : Addr) : Sp := fun vs H Q _ => ∃ (A : KAd) (nms : List Str) (S : KS), vs = [.ref A.p] ∧ KettlesAt K CO CK H A nms S ∧ KRow K CS H A.rv ∧ nms.Nodup ∧ nms.length ≤ 1000 ∧
  ∀ A' H', KettlesAt K CO CK H' A' nms S → KRow K CS H' A'.rv → Off K (fun _ => False) H H' → (∀ a, KQ A' nms a → Nw H a) → Q (.ref A'.p) H'
def sp_Kettles_init (K : PySem.W.Frag) (CO CK CR : Addr) : Sp := fun vs H Q _ => ∃ (p dx r dr k m : Addr) (xs : List V) (rs : List RK), vs = [.ref p, .ref r] ∧ H p = some (.ins CO dx []) ∧ H r = some (.ins CR dr (rfs k m)) ∧ SqT K H k xs ∧ xs.length = rs.length ∧ (∀ (i : Nat) (v : V) (z : RK), xs[i]? = some v → rs[i]? = some z → RkAt K H v z) ∧ (rs.map (·.1)).Nodup ∧ rs.length ≤ 1000 ∧
  ∀ A st H', A.p = p → KettlesAt K CO CK H' A (rs.map (·.1)) ⟨st, 0, 0⟩ → KtOf st rs → Off K (· = p) H H' → (∀ a, KQ A (rs.map (·.1)) a → a = p ∨ Nw H a) → Q .non H'
def sp_Kettles_named (K : PySem.W.Frag) (CO CK CN : Addr) : Sp := fun vs H Q E => ∃ (A : KAd) (nms : List Str) (S : KS) (x : Str), vs = [.ref A.p, .str x] ∧ KettlesAt K CO CK H A nms S ∧ (x ∉ nms → Rf CN "NoKettle" (.str x) H E) ∧ (x ∈ nms → Q (.ref (A.c x)) H)
/-- the water that goes off while all boil -/
def goff (h : Nat) (st : Str → Ke) (l : List Str) (g : Rat) : Rat := l.foldl (fun g x => g + ((st x).w - (kb h (st x)).w)) g
set_option Elab.async true in
theorem goff_take {h : Nat} {st : Str → Ke} {l : List Str} {g : Rat} {i : Nat} {x : Str} (e : l[i]? = some x) : goff h st (l.take (i + 1)) g = goff h st (l.take i) g + ((st x).w - (kb h (st x)).w) := foldl_take (f := fun g x => g + ((st x).w - (kb h (st x)).w)) e
  in #guard_msgs (pass all) in example : True := trivial
def KS.boil (S : KS) (nms : List Str) (h : Nat) : KS := ⟨fun x => kb h (S.st x), S.hour + h, goff h S.st nms S.gone⟩
def sp_Kettles_boil_on (K : PySem.W.Frag) (CO CK : Addr) : Sp := fun vs H Q _ => ∃ (A : KAd) (nms : List Str) (S : KS) (h : Nat), vs = [.ref A.p, .int h] ∧ KettlesAt K CO CK H A nms S ∧ nms.Nodup ∧ (∀ x ∈ nms, KBig (S.st x) h) ∧ (∀ i, i ≤ nms.length → Big (goff h S.st (nms.take i) S.gone)) ∧ ∀ H', KettlesAt K CO CK H' A nms (S.boil nms h) → Off K (A.R nms) H H' → Q .non H'
/-- juice that is poured in: what is reckoned -/
structure VBig (s w s' w' : Rat) : Prop where
  a : Big s
  b : Big w
  c : Big s'
  d : Big w'
  e : Big (s + s')
  f : Big (w + w')
  g : Big (s + s' + (w + w'))
def sp_Kettles_pour (K : PySem.W.Frag) (CO CK CN CR : Addr) : Sp := fun vs H Q E => ∃ (A : KAd) (nms : List Str) (S : KS) (x : Str) (j : Addr) (s w : Rat), vs = [.ref A.p, .str x, .ref j] ∧ KettlesAt K CO CK H A nms S ∧ JuQ K H j s w ∧ (x ∈ nms → VBig (S.st x).s (S.st x).w s w ∧ Big ((S.st x).room : Rat)) ∧
  (x ∉ nms → Rf CN "NoKettle" (.str x) H E) ∧ (x ∈ nms → ((S.st x).room : Rat) < (S.st x).s + s + ((S.st x).w + w) → Rf CR "NoRoom" (.str x) H E) ∧
  (x ∈ nms → ¬ ((S.st x).room : Rat) < (S.st x).s + s + ((S.st x).w + w) → ∀ H', KettlesAt K CO CK H' A nms (S.put x { S.st x with s := (S.st x).s + s, w := (S.st x).w + w }) → Off K (A.R nms) H H' → Q .non H')
def sp_Kettles_take (K : PySem.W.Frag) (CO CK CN : Addr) : Sp := fun vs H Q E => ∃ (A : KAd) (nms : List Str) (S : KS) (x : Str) (a : Addr) (t : Rat), vs = [.ref A.p, .str x, .ref a] ∧ KettlesAt K CO CK H A nms S ∧ x ∈ nms ∧ FrQ K H a t ∧ Big (S.st x).s ∧ Big (S.st x).w ∧ Big t ∧ Big (1 - t) ∧
  ∀ z H', KettlesAt K CO CK H' A nms (S.put x { S.st x with s := (S.st x).s * (1 - t), w := (S.st x).w * (1 - t) }) → JuQ K H' z ((S.st x).s * t) ((S.st x).w * t) → Off K (A.R nms) H H' → Q (.ref z) H'
def Ke.nil (k : Ke) : Prop := k.s = 0 ∧ k.w = 0
instance {k : Ke} : Decidable k.nil := by unfold Ke.nil; infer_instance
def Ke.out (k : Ke) (t : Rat) : Ke := { k with s := k.s * (1 - t), w := k.w * (1 - t) }
def Ke.inn (k : Ke) (s w : Rat) : Ke := { k with s := k.s + s, w := k.w + w }
def sp_Kettles_dip (K : PySem.W.Frag) (CO CK CN CS CE : Addr) : Sp := fun vs H Q E => ∃ (A : KAd) (nms : List Str) (S : KS) (x : Str) (a : Addr) (t : Rat), vs = [.ref A.p, .str x, .ref a] ∧ KettlesAt K CO CK H A nms S ∧ FrQ K H a t ∧ (x ∈ nms → Big (S.st x).s ∧ Big (S.st x).w) ∧ Big t ∧ Big (1 - t) ∧
  (x ∉ nms → Rf CN "NoKettle" (.str x) H E) ∧ (x ∈ nms → ¬ ShOk t → Rf CS "NoShare" (.ref a) H E) ∧ (x ∈ nms → ShOk t → (S.st x).nil → Rf CE "Empty" (.str x) H E) ∧
  (x ∈ nms → ShOk t → ¬ (S.st x).nil → ∀ z H', KettlesAt K CO CK H' A nms (S.put x ((S.st x).out t)) → JuQ K H' z ((S.st x).s * t) ((S.st x).w * t) → Off K (A.R nms) H H' → Q (.ref z) H')
def Ke.full (k : Ke) (s w : Rat) : Prop := (k.room : Rat) < k.s + s + (k.w + w)
instance {k : Ke} {s w : Rat} : Decidable (k.full s w) := by unfold Ke.full; infer_instance
def sp_Kettles_ladle (K : PySem.W.Frag) (CO CK CN CM CS CE CR : Addr) : Sp := fun vs H Q E => ∃ (A : KAd) (nms : List Str) (S : KS) (x y : Str) (a : Addr) (t : Rat), vs = [.ref A.p, .str x, .str y, .ref a] ∧ KettlesAt K CO CK H A nms S ∧ FrQ K H a t ∧ (x ∈ nms → y ∈ nms → Big (S.st x).s ∧ Big (S.st x).w ∧ VBig (S.st y).s (S.st y).w ((S.st x).s * t) ((S.st x).w * t) ∧ Big ((S.st y).room : Rat)) ∧ Big t ∧ Big (1 - t) ∧
  (x ∉ nms → Rf CN "NoKettle" (.str x) H E) ∧ (x ∈ nms → y ∉ nms → Rf CN "NoKettle" (.str y) H E) ∧ (x ∈ nms → y ∈ nms → x = y → Rf CM "Same" (.str x) H E) ∧ (x ∈ nms → y ∈ nms → x ≠ y → ¬ ShOk t → Rf CS "NoShare" (.ref a) H E) ∧ (x ∈ nms → y ∈ nms → x ≠ y → ShOk t → (S.st x).nil → Rf CE "Empty" (.str x) H E) ∧
  (x ∈ nms → y ∈ nms → x ≠ y → ShOk t → ¬ (S.st x).nil → (S.st y).full ((S.st x).s * t) ((S.st x).w * t) → ∀ H', Same H H' → Rf CR "NoRoom" (.str y) H' E) ∧
  (x ∈ nms → y ∈ nms → x ≠ y → ShOk t → ¬ (S.st x).nil → ¬ (S.st y).full ((S.st x).s * t) ((S.st x).w * t) → ∀ z H', KettlesAt K CO CK H' A nms ((S.put y ((S.st y).inn ((S.st x).s * t) ((S.st x).w * t))).put x ((S.st x).out t)) → JuQ K H' z ((S.st x).s * t) ((S.st x).w * t) → Off K (A.R nms) H H' → Q (.ref z) H')
/-- what was in the kettle that is poured into, by a skimming -/
def Ke.bef (S : KS) (x y : Str) (t : Rat) : Ke := if x = y then (S.st x).out t else S.st y
def sp_Kettles_skim (K : PySem.W.Frag) (CO CK CN CS CE CR : Addr) : Sp := fun vs H Q E => ∃ (A : KAd) (nms : List Str) (S : KS) (x y : Str) (a b : Addr) (t g : Rat), vs = [.ref A.p, .str x, .ref a, .ref b, .str y] ∧ KettlesAt K CO CK H A nms S ∧ FrQ K H a t ∧ FrQ K H b g ∧
  (x ∈ nms → y ∈ nms → Big (S.st x).s ∧ Big (S.st x).w ∧ Big ((S.st x).s * t) ∧ Big ((S.st x).w * t) ∧ VBig (Ke.bef S x y t).s (Ke.bef S x y t).w ((S.st x).s * t * g) ((S.st x).w * t * g) ∧ Big ((S.st y).room : Rat)) ∧ Big t ∧ Big (1 - t) ∧ Big g ∧ Big (1 - g) ∧
  (x ∉ nms → Rf CN "NoKettle" (.str x) H E) ∧ (x ∈ nms → y ∉ nms → Rf CN "NoKettle" (.str y) H E) ∧ (x ∈ nms → y ∈ nms → ¬ ShOk t → Rf CS "NoShare" (.ref a) H E) ∧ (x ∈ nms → y ∈ nms → ShOk t → g ≠ 0 → ¬ ShOk g → Rf CS "NoShare" (.ref b) H E) ∧ (x ∈ nms → y ∈ nms → ShOk t → (g = 0 ∨ ShOk g) → (S.st x).nil → Rf CE "Empty" (.str x) H E) ∧
  (x ∈ nms → y ∈ nms → ShOk t → (g = 0 ∨ ShOk g) → ¬ (S.st x).nil → (Ke.bef S x y t).full ((S.st x).s * t * g) ((S.st x).w * t * g) → ∀ H', Same H H' → Rf CR "NoRoom" (.str y) H' E) ∧
  (x ∈ nms → y ∈ nms → ShOk t → (g = 0 ∨ ShOk g) → ¬ (S.st x).nil → ¬ (Ke.bef S x y t).full ((S.st x).s * t * g) ((S.st x).w * t * g) → ∀ z H', KettlesAt K CO CK H' A nms ((S.put x ((S.st x).out t)).put y ((Ke.bef S x y t).inn ((S.st x).s * t * g) ((S.st x).w * t * g))) → (∃ p q, SqT K H' z [.ref p, .ref q] ∧ JuQ K H' p ((S.st x).s * t * g) ((S.st x).w * t * g) ∧ JuQ K H' q ((S.st x).s * t * (1 - g)) ((S.st x).w * t * (1 - g))) → Off K (A.R nms) H H' → Q (.ref z) H')
def sp_Kettles_work (K : PySem.W.Frag) (CO CK CN CB : Addr) (nm : Str) (b : Bool) : Sp := fun vs H Q E => ∃ (A : KAd) (nms : List Str) (S : KS) (x : Str), vs = [.ref A.p, .str x] ∧ KettlesAt K CO CK H A nms S ∧ (x ∉ nms → Rf CN "NoKettle" (.str x) H E) ∧ (x ∈ nms → (S.st x).on = b → Rf CB nm (.str x) H E) ∧ (x ∈ nms → (S.st x).on ≠ b → ∀ H', KettlesAt K CO CK H' A nms (S.put x { S.st x with on := b }) → Off K (A.R nms) H H' → Q .non H')
def sp_Kettles_hour (K : PySem.W.Frag) (CO CK : Addr) : Sp := fun vs H Q _ => ∃ (A : KAd) (nms : List Str) (S : KS), vs = [.ref A.p] ∧ KettlesAt K CO CK H A nms S ∧ Q (.int S.hour) H
def sp_Kettles_names (K : PySem.W.Frag) (CO CK : Addr) : Sp := fun vs H Q _ => ∃ (A : KAd) (nms : List Str) (S : KS), vs = [.ref A.p] ∧ KettlesAt K CO CK H A nms S ∧ ∀ a H', Same H H' → H a = none → H' a = some (.lst (nms.map V.str)) → Q (.ref a) H'
def sp_Kettles_gone (K : PySem.W.Frag) (CO CK : Addr) : Sp := fun vs H Q _ => ∃ (A : KAd) (nms : List Str) (S : KS), vs = [.ref A.p] ∧ KettlesAt K CO CK H A nms S ∧ ∀ a, FrQ K H a S.gone → Q (.ref a) H
def sp_Kettles_juice (K : PySem.W.Frag) (CO CK CN : Addr) : Sp := fun vs H Q E => ∃ (A : KAd) (nms : List Str) (S : KS) (x : Str), vs = [.ref A.p, .str x] ∧ KettlesAt K CO CK H A nms S ∧ (x ∉ nms → Rf CN "NoKettle" (.str x) H E) ∧ (x ∈ nms → ∀ a, JuQ K H a (S.st x).s (S.st x).w → Q (.ref a) H)
def sp_Kettles_inwork (K : PySem.W.Frag) (CO CK CN : Addr) : Sp := fun vs H Q E => ∃ (A : KAd) (nms : List Str) (S : KS) (x : Str), vs = [.ref A.p, .str x] ∧ KettlesAt K CO CK H A nms S ∧ (x ∉ nms → Rf CN "NoKettle" (.str x) H E) ∧ (x ∈ nms → Q (.bl (S.st x).on) H)
def sp_Kettles_isready (K : PySem.W.Frag) (CO CK CN : Addr) : Sp := fun vs H Q E => ∃ (A : KAd) (nms : List Str) (S : KS) (x : Str), vs = [.ref A.p, .str x] ∧ KettlesAt K CO CK H A nms S ∧ (x ∈ nms → Big (S.st x).s ∧ Big (S.st x).w ∧ Big ((S.st x).s + (S.st x).w)) ∧ (x ∉ nms → Rf CN "NoKettle" (.str x) H E) ∧ (x ∈ nms → ∀ H', Same H H' → Q (.bl (just (S.st x))) H')
/-- the hour from which on a kettle is ready -/
def KS.when (S : KS) (x : Str) : Option Rat := (rdy (S.st x)).map fun q => ((S.hour : Int) : Rat) + q
structure RBig (k : Ke) : Prop where
  s : Big k.s
  w : Big k.w
  u : Big k.mark
  l : Big (wat k.s k.mark)
  d : Big (k.w - wat k.s k.mark)
  f : k.fire.natAbs < 2 ^ 14
  u0 : k.mark ≠ 0
  r : ∀ q, rdy k = some q → Big q
def sp_Kettles_readyat (K : PySem.W.Frag) (CO CK CN : Addr) : Sp := fun vs H Q E => ∃ (A : KAd) (nms : List Str) (S : KS) (x : Str), vs = [.ref A.p, .str x] ∧ KettlesAt K CO CK H A nms S ∧ (x ∈ nms → RBig (S.st x)) ∧ S.hour < 2 ^ 60 ∧ (x ∉ nms → Rf CN "NoKettle" (.str x) H E) ∧ (x ∈ nms → ∀ v H', Same H H' → OQ K H' v (S.when x) → Q v H')
end KR
/-! ### deeds on kettles as functions of what is kept; bounds of all numbers -/
namespace KR
open PySem PySem.Spec PyProof.Rows L2
/-- a mark that a kettle can have -/
structure MOk (u : Rat) : Prop where
  u0 : 0 < u
  u1 : u < 1
  ud : u.den ≤ 60
set_option Elab.async true in
theorem MOk.num {u : Rat} (h : MOk u) : 0 < u.num ∧ u.num < (u.den : Int) := by
  refine ⟨num_pos.mpr h.u0, ?_⟩
  have k := (lt_cross u 1).mpr h.u1
  have e1 : (1 : Rat).num = 1 := rfl
  have e2 : ((1 : Rat).den : Int) = 1 := rfl
  rw [e1, e2, Int.mul_one, Int.one_mul] at k
  exact k
  in #guard_msgs (pass all) in example : True := trivial
theorem MOk.ne {u : Rat} (h : MOk u) : u ≠ 0 := fun e => by
  have := h.u0
  rw [e] at this
  exact Rat.lt_irrefl this
set_option Elab.async true in
/-- what a mark's water is of its sugar -/
theorem MOk.per {u : Rat} (h : MOk u) : rq ((u.den : Int) - u.num) u.num = (1 - u) / u ∧ Sz 7 (rq ((u.den : Int) - u.num) u.num) := by
  obtain ⟨n0, n1⟩ := h.num
  have d := h.ud
  refine ⟨?_, ?_⟩
  · have k := rq_wat 1 u h.ne
    have e1 : (1 : Rat).num = 1 := rfl
    have e2 : ((1 : Rat).den : Int) = 1 := rfl
    rw [e1, e2, Int.one_mul, Int.one_mul] at k
    rw [k]
    unfold wat
    have := h.ne
    grind
  · have hb : u.num ≠ 0 := by omega
    have k := rq_low (t := (u.den : Int) - u.num) (b := u.num) hb
    have f1 := congrArg Prod.fst k
    have f2 := congrArg Prod.snd k
    obtain ⟨l1, l2⟩ := low_le ((u.den : Int) - u.num) u.num
    dsimp only at f1 f2
    exact ⟨by rw [← f1]; omega, by rw [← f2]; omega⟩
  in #guard_msgs (pass all) in example : True := trivial
theorem wat_per {s u : Rat} (h : u ≠ 0) : s * ((1 - u) / u) = wat s u := by
  unfold wat
  grind
/-- each number to sixty divides it -/
def B60 : Nat := 9690712164777231700912800
set_option Elab.async true in
theorem b60 (b : Nat) (h1 : 1 ≤ b) (h2 : b ≤ 60) : b ∣ B60 := by
  have k : ∀ b : Fin 61, 1 ≤ b.val → B60 % b.val = 0 := by decide +kernel
  exact Nat.dvd_of_mod_eq_zero (k ⟨b, by omega⟩ h1)
  in #guard_msgs (pass all) in example : True := trivial
/-- a fraction that a law may hand in for a share -/
structure SAny (t : Rat) : Prop where
  n : t.num.natAbs ≤ 13
  d : t.den ≤ 60
/-- a kettle's name: one of the row's, or the stranger's -/
def KNm (nms : List Str) (x : Str) : Prop := x ∈ nms ∨ x = "qq"
instance kShOk {t : Rat} : Decidable (ShOk t) := by unfold ShOk; infer_instance
inductive KD
  | boil (h : Nat)
  | pour (x : Str) (s w : Rat)
  | dip (x : Str) (t : Rat)
  | ladle (x y : Str) (t : Rat)
  | skim (x : Str) (t g : Rat) (y : Str)
  | stop (x : Str)
  | start (x : Str)
def kstep (nms : List Str) : KD → KS → KS × PyData
  | .boil h, S => (S.boil nms h, toldD .none)
  | .pour x s w, S => if x ∉ nms then (S, refu "kettle" (.str x)) else if (S.st x).full s w then (S, refu "room" (.str x)) else (S.put x ((S.st x).inn s w), toldD .none)
  | .dip x t, S => if x ∉ nms then (S, refu "kettle" (.str x)) else if ¬ ShOk t then (S, refu "share" (dq t)) else if (S.st x).nil then (S, refu "empty" (.str x)) else (S.put x ((S.st x).out t), toldD (dj ((S.st x).s * t) ((S.st x).w * t)))
  | .ladle x y t, S => if x ∉ nms then (S, refu "kettle" (.str x)) else if y ∉ nms then (S, refu "kettle" (.str y)) else if x = y then (S, refu "same" (.str x)) else if ¬ ShOk t then (S, refu "share" (dq t)) else if (S.st x).nil then (S, refu "empty" (.str x))
    else if (S.st y).full ((S.st x).s * t) ((S.st x).w * t) then (S, refu "room" (.str y)) else ((S.put y ((S.st y).inn ((S.st x).s * t) ((S.st x).w * t))).put x ((S.st x).out t), toldD (dj ((S.st x).s * t) ((S.st x).w * t)))
  | .skim x t g y, S => if x ∉ nms then (S, refu "kettle" (.str x)) else if y ∉ nms then (S, refu "kettle" (.str y)) else if ¬ ShOk t then (S, refu "share" (dq t)) else if g ≠ 0 ∧ ¬ ShOk g then (S, refu "share" (dq g)) else if (S.st x).nil then (S, refu "empty" (.str x))
    else if (Ke.bef S x y t).full ((S.st x).s * t * g) ((S.st x).w * t * g) then (S, refu "room" (.str y)) else ((S.put x ((S.st x).out t)).put y ((Ke.bef S x y t).inn ((S.st x).s * t * g) ((S.st x).w * t * g)), toldD (.tuple [dj ((S.st x).s * t * g) ((S.st x).w * t * g), dj ((S.st x).s * t * (1 - g)) ((S.st x).w * t * (1 - g))]))
  | .stop x, S => if x ∉ nms then (S, refu "kettle" (.str x)) else if (S.st x).on = false then (S, refu "stopped" (.str x)) else (S.put x { S.st x with on := false }, toldD .none)
  | .start x, S => if x ∉ nms then (S, refu "kettle" (.str x)) else if (S.st x).on = true then (S, refu "inwork" (.str x)) else (S.put x { S.st x with on := true }, toldD .none)
/-- a deed at d -/
def KDAt (K : PySem.W.Frag) (H : Hp) (d : Addr) : KD → Prop
  | .boil h => SqT K H d [.str "boil", .int h]
  | .pour x s w => ∃ j, SqT K H d [.str "pour", .str x, .ref j] ∧ JuQ K H j s w
  | .dip x t => ∃ a, SqT K H d [.str "dip", .str x, .ref a] ∧ FrQ K H a t
  | .ladle x y t => ∃ a, SqT K H d [.str "ladle", .str x, .str y, .ref a] ∧ FrQ K H a t
  | .skim x t g y => ∃ a b, SqT K H d [.str "skim", .str x, .ref a, .ref b, .str y] ∧ FrQ K H a t ∧ FrQ K H b g
  | .stop x => SqT K H d [.str "stop", .str x]
  | .start x => SqT K H d [.str "start", .str x]
set_option Elab.async true in
theorem KDAt.tk {K : PySem.W.Frag} {H H' : Hp} {d : Addr} {D : KD} (h : KDAt K H d D) (t : TK K H H') : KDAt K H' d D := by
  cases D with
  | boil h' => exact t _ _ h
  | pour x s w => obtain ⟨j, h1, h2⟩ := h; exact ⟨j, t _ _ h1, h2.tk t⟩
  | dip x q => obtain ⟨j, h1, h2⟩ := h; exact ⟨j, t _ _ h1, h2.tk t⟩
  | ladle x y q => obtain ⟨j, h1, h2⟩ := h; exact ⟨j, t _ _ h1, h2.tk t⟩
  | skim x q g y => obtain ⟨a, b, h1, h2, h3⟩ := h; exact ⟨a, b, t _ _ h1, h2.tk t, h3.tk t⟩
  | stop x => exact t _ _ h
  | start x => exact t _ _ h
  in #guard_msgs (pass all) in example : True := trivial
structure KOk (M L : Nat) (k : Ke) : Prop where
  r0 : 1 ≤ k.room
  r9 : k.room ≤ 1000000
  f0 : 0 ≤ k.fire
  f9 : k.fire ≤ 10000
  mo : MOk k.mark
  ml : k.mark.num.natAbs ∣ L
  s0 : 0 ≤ k.s
  w0 : 0 ≤ k.w
  vol : k.s + k.w ≤ (k.room : Rat)
  sd : Dv M k.s
  wd : Dv (M * L) k.w
structure KInv (nms : List Str) (j : Nat) (S : KS) : Prop where
  ex : ∃ M L : Nat, 0 < M ∧ B60 ∣ M ∧ M ≤ B60 * 144 ^ j ∧ 0 < L ∧ L ≤ 60 ^ 8 ∧ (∀ x ∈ nms, KOk M L (S.st x)) ∧ Dv (M * L) S.gone
  g0 : 0 ≤ S.gone
  g9 : S.gone ≤ ((8000000 * j : Nat) : Int)
  hr : S.hour ≤ 1000 * j
  n8 : nms.length ≤ 8
/-- a pour whose numbers have whatever bottom the kettles have (and a bit more, where it is refused) -/
def PDv (nms : List Str) (S : KS) (x : Str) (s w : Rat) : Prop := ∀ M L : Nat, B60 ∣ M → (∀ y ∈ nms, KOk M L (S.st y)) → (Dv (M * L * (B60 * B60)) s ∧ Dv (M * L * (B60 * B60)) w) ∧ (x ∈ nms → ¬ (S.st x).full s w → Dv M s ∧ Dv (M * L) w)
set_option Elab.async true in
theorem pdv_of {nms : List Str} {S : KS} {x : Str} {s w : Rat} (sd : Dv B60 s) (wd : Dv B60 w ∨ ∃ y ∈ nms, Dv (B60 * (S.st y).mark.num.natAbs) w) : PDv nms S x s w := fun M L md okk => by
  have hs : Dv M s := sd.up md
  have hw : Dv (M * L) w := by
    rcases wd with wd | ⟨y, hy, wd⟩
    · exact wd.up (Nat.dvd_trans md (Nat.dvd_mul_right _ _))
    · exact wd.up (Nat.mul_dvd_mul md (okk y hy).ml)
  exact ⟨⟨hs.up (Nat.dvd_trans (Nat.dvd_mul_right _ _) (Nat.dvd_mul_right _ _)), hw.up (Nat.dvd_mul_right _ _)⟩, fun _ _ => ⟨hs, hw⟩⟩
  in #guard_msgs (pass all) in example : True := trivial
/-- a deed that a law makes -/
def KDOk (nms : List Str) (S : KS) : KD → Prop
  | .boil h => h ≤ 1000
  | .pour x s w => KNm nms x ∧ 0 ≤ s ∧ s ≤ 1000000 ∧ 0 ≤ w ∧ w ≤ 1000000 ∧ PDv nms S x s w
  | .dip x t => KNm nms x ∧ SAny t
  | .ladle x y t => KNm nms x ∧ KNm nms y ∧ SAny t
  | .skim x t g y => KNm nms x ∧ KNm nms y ∧ SAny t ∧ SAny g
  | .stop x => KNm nms x
  | .start x => KNm nms x
set_option Elab.async true in
theorem big_of {N : Nat} {q : Rat} (d : Dv N q) (n0 : 0 < N) (n9 : N ≤ 2 ^ 4000) (lo : -(((2 ^ 300 : Nat) : Int) : Rat) ≤ q) (hi : q ≤ (((2 ^ 300 : Nat) : Int) : Rat)) : Big q :=
  d.sz n0 lo hi (by decide +kernel) (Nat.lt_of_le_of_lt (Nat.mul_le_mul_left _ n9) (by decide +kernel))
  in #guard_msgs (pass all) in example : True := trivial
theorem p300 : (1000000000000000 : Rat) ≤ (((2 ^ 300 : Nat) : Int) : Rat) := by decide +kernel
set_option Elab.async true in
/-- within a billion of millions -/
theorem big_in {N : Nat} {q : Rat} (d : Dv N q) (n0 : 0 < N) (n9 : N ≤ 2 ^ 4000) (lo : -1000000000000000 ≤ q) (hi : q ≤ 1000000000000000) : Big q :=
  big_of d n0 n9 (by have := p300; grind) (by have := p300; grind)
  in #guard_msgs (pass all) in example : True := trivial
set_option Elab.async true in
theorem n_bound {M L j : Nat} (m9 : M ≤ B60 * 144 ^ j) (l9 : L ≤ 60 ^ 8) (j9 : j ≤ 400) : M * L * (B60 * B60) ≤ 2 ^ 4000 := by
  have a : M ≤ B60 * 144 ^ 400 := Nat.le_trans m9 (Nat.mul_le_mul_left _ (Nat.pow_le_pow_right (by decide) j9))
  exact Nat.le_trans (Nat.mul_le_mul_right _ (Nat.mul_le_mul a l9)) (by decide +kernel)
  in #guard_msgs (pass all) in example : True := trivial
end KR
/-! ### bounds of all that is reckoned with in kettles -/
namespace KR
open PySem PySem.Spec PyProof.Rows L2
set_option Elab.async true in
theorem rq_le' {t b : Int} (h0 : 0 ≤ t) (hb : 1 ≤ b) : rq t b ≤ (t : Rat) := by
  have b0 : (0 : Rat) < (b : Rat) := by
    have : ((0 : Int) : Rat) < (b : Rat) := Rat.intCast_lt_intCast.mpr (by omega)
    exact this
  refine div_le b0 ?_
  rw [← Rat.intCast_mul]
  refine Rat.intCast_le_intCast.mpr ?_
  have := Int.mul_le_mul_of_nonneg_left hb h0
  omega
  in #guard_msgs (pass all) in example : True := trivial
theorem mil : ((1000000 : Int) : Rat) = 1000000 := by decide +kernel
set_option Elab.async true in
theorem icast0 {i : Int} (h : 0 ≤ i) : (0 : Rat) ≤ (i : Rat) := by
  have : ((0 : Int) : Rat) ≤ (i : Rat) := Rat.intCast_le_intCast.mpr h
  exact this
  in #guard_msgs (pass all) in example : True := trivial
/-- what a common bottom is for -/
structure NOk (M L N : Nat) : Prop where
  m0 : 0 < M
  l0 : 0 < L
  n0 : 0 < N
  n9 : N ≤ 2 ^ 4000
  d : M * L * (B60 * B60) ∣ N
theorem NOk.dml {M L N : Nat} (h : NOk M L N) : M * L ∣ N := Nat.dvd_trans (Nat.dvd_mul_right _ _) h.d
theorem NOk.dm {M L N : Nat} (h : NOk M L N) : M ∣ N := Nat.dvd_trans (Nat.dvd_mul_right _ _) h.dml
/-- a number that can be reckoned with -/
structure In (N : Nat) (b : Rat) (q : Rat) : Prop where
  d : Dv N q
  lo : -b ≤ q
  hi : q ≤ b
set_option Elab.async true in
theorem In.big {M L N : Nat} {b q : Rat} (h : In N b q) (n : NOk M L N) (b9 : b ≤ 1000000000000000) : Big q :=
  big_in h.d n.n0 n.n9 (by have := h.lo; grind) (by have := h.hi; grind)
  in #guard_msgs (pass all) in example : True := trivial
set_option Elab.async true in
theorem In.add {N : Nat} {b c p q : Rat} (h : In N b p) (k : In N c q) : In N (b + c) (p + q) := ⟨h.d.add k.d, by have := h.lo; have := k.lo; grind, by have := h.hi; have := k.hi; grind⟩
  in #guard_msgs (pass all) in example : True := trivial
set_option Elab.async true in
theorem In.sub {N : Nat} {b c p q : Rat} (h : In N b p) (k : In N c q) : In N (b + c) (p - q) := ⟨h.d.sub k.d, by have := h.lo; have := k.hi; grind, by have := h.hi; have := k.lo; grind⟩
  in #guard_msgs (pass all) in example : True := trivial
set_option Elab.async true in
theorem In.mono {N : Nat} {b c q : Rat} (h : In N b q) (k : b ≤ c) : In N c q := ⟨h.d, by have := h.lo; grind, by have := h.hi; grind⟩
  in #guard_msgs (pass all) in example : True := trivial
set_option Elab.async true in
theorem In.int {N : Nat} {b : Rat} {i : Int} (lo : -b ≤ (i : Rat)) (hi : (i : Rat) ≤ b) : In N b (i : Rat) := ⟨Dv.int i, lo, hi⟩
  in #guard_msgs (pass all) in example : True := trivial
section
variable {M L N : Nat} {k : Ke}
set_option Elab.async true in
theorem KOk.s9 (h : KOk M L k) : k.s ≤ 1000000 ∧ k.w ≤ 1000000 := by
  have a := h.vol
  have b : (k.room : Rat) ≤ ((1000000 : Int) : Rat) := Rat.intCast_le_intCast.mpr h.r9
  rw [mil] at b
  have := h.s0
  have := h.w0
  constructor <;> grind
  in #guard_msgs (pass all) in example : True := trivial
theorem KOk.inS (h : KOk M L k) (n : NOk M L N) : In N 1000000 k.s := ⟨h.sd.up n.dm, by have := h.s0; grind, h.s9.1⟩
theorem KOk.inW (h : KOk M L k) (n : NOk M L N) : In N 1000000 k.w := ⟨h.wd.up n.dml, by have := h.w0; grind, h.s9.2⟩
set_option Elab.async true in
theorem KOk.wat_dv (h : KOk M L k) : Dv (M * L) (wat k.s k.mark) := by
  obtain ⟨pe, _⟩ := h.mo.per
  obtain ⟨n0, n1⟩ := h.mo.num
  rw [← wat_per h.mo.ne, ← pe]
  exact (h.sd.mul (Dv.rq (t := (k.mark.den : Int) - k.mark.num) (b := k.mark.num) n0)).up (Nat.mul_dvd_mul_left _ h.ml)
  in #guard_msgs (pass all) in example : True := trivial
set_option Elab.async true in
theorem KOk.wat_in (h : KOk M L k) (n : NOk M L N) : In N 60000000 (wat k.s k.mark) ∧ 0 ≤ wat k.s k.mark := by
  obtain ⟨pe, _⟩ := h.mo.per
  obtain ⟨n0, n1⟩ := h.mo.num
  have d := h.mo.ud
  have e := wat_per (s := k.s) h.mo.ne
  have p0 : 0 ≤ rq ((k.mark.den : Int) - k.mark.num) k.mark.num := rq_nn (by omega) (by omega)
  have p1 := rq_le' (t := (k.mark.den : Int) - k.mark.num) (b := k.mark.num) (by omega) (by omega)
  have p2 : (((k.mark.den : Int) - k.mark.num : Int) : Rat) ≤ ((60 : Int) : Rat) := Rat.intCast_le_intCast.mpr (by omega)
  have e60 : ((60 : Int) : Rat) = 60 := by decide +kernel
  rw [e60] at p2
  rw [pe] at p0 p1
  have s0 := h.s0
  have s9 := h.s9.1
  have w0 : 0 ≤ wat k.s k.mark := by rw [← e]; exact Rat.mul_nonneg s0 p0
  refine ⟨⟨h.wat_dv.up n.dml, by grind, ?_⟩, w0⟩
  rw [← e]
  have a := Rat.mul_le_mul_of_nonneg_left (Rat.le_trans p1 p2) s0
  have b := Rat.mul_le_mul_of_nonneg_right s9 (show (0 : Rat) ≤ 60 by decide +kernel)
  grind
  in #guard_msgs (pass all) in example : True := trivial
set_option Elab.async true in
theorem KOk.u_sz (h : KOk M L k) : Sz 7 k.mark := by
  obtain ⟨n0, n1⟩ := h.mo.num
  have := h.mo.ud
  exact ⟨by omega, by omega⟩
  in #guard_msgs (pass all) in example : True := trivial
set_option Elab.async true in
theorem KOk.room_sz (h : KOk M L k) : Big (k.room : Rat) := by
  have := h.r0
  have := h.r9
  exact (Sz.int (z := k.room) (n := 21) (by omega) (by decide)).up (by decide)
  in #guard_msgs (pass all) in example : True := trivial
set_option Elab.async true in
theorem KOk.fh_in (h : KOk M L k) {t : Nat} (t9 : t ≤ 1000) : In N 10000000 ((k.fire : Rat) * ((t : Int) : Rat)) := by
  have f0 := h.f0
  have f9 := h.f9
  have a : 0 ≤ k.fire * (t : Int) := Int.mul_nonneg f0 (by omega)
  have b : k.fire * (t : Int) ≤ 10000 * 1000 := Int.mul_le_mul f9 (by omega) (by omega) (by decide)
  rw [← Rat.intCast_mul]
  have e : ((10000000 : Int) : Rat) = 10000000 := by decide +kernel
  have c : ((k.fire * (t : Int) : Int) : Rat) ≤ ((10000000 : Int) : Rat) := Rat.intCast_le_intCast.mpr (by omega)
  rw [e] at c
  exact .int (by have := icast0 a; grind) c
  in #guard_msgs (pass all) in example : True := trivial
set_option Elab.async true in
/-- what boils leaves no more water, and none below nought -/
theorem KOk.boil_in (h : KOk M L k) {t : Nat} (t9 : t ≤ 1000) : Dv (M * L) (boil k.s k.w k.fire k.mark ((t : Int) : Rat)) ∧ 0 ≤ boil k.s k.w k.fire k.mark ((t : Int) : Rat) ∧ boil k.s k.w k.fire k.mark ((t : Int) : Rat) ≤ k.w := by
  have w0 := h.w0
  have f0 : (0 : Rat) ≤ (k.fire : Rat) * ((t : Int) : Rat) := Rat.mul_nonneg (icast0 h.f0) (icast0 (by omega))
  have nn : NOk M L (M * L * (B60 * B60)) → 0 ≤ wat k.s k.mark := fun n => (h.wat_in n).2
  have wn : 0 ≤ wat k.s k.mark := by
    obtain ⟨pe, _⟩ := h.mo.per
    obtain ⟨n0, n1⟩ := h.mo.num
    rw [← wat_per h.mo.ne, ← pe]
    exact Rat.mul_nonneg h.s0 (rq_nn (by omega) (by omega))
  unfold boil
  split
  · rename_i c
    split
    · exact ⟨h.wat_dv, wn, Rat.le_of_lt c⟩
    · rename_i c2
      refine ⟨h.wd.sub ?_, Rat.le_trans wn (Rat.not_lt.mp c2), by grind⟩
      rw [← Rat.intCast_mul]
      exact Dv.int _
  · exact ⟨h.wd, w0, Rat.le_refl⟩
  in #guard_msgs (pass all) in example : True := trivial
set_option Elab.async true in
theorem KOk.kbig (h : KOk M L k) (n : NOk M L N) {t : Nat} (t9 : t ≤ 1000) : KBig k t := by
  obtain ⟨b1, b2, b3⟩ := h.boil_in t9
  have bi : In N 1000000 (boil k.s k.w k.fire k.mark ((t : Int) : Rat)) := ⟨b1.up n.dml, by grind, Rat.le_trans b3 h.s9.2⟩
  have f0 := h.f0
  have f9 := h.f9
  refine ⟨(h.inS n).big n (by decide +kernel), (h.inW n).big n (by decide +kernel), h.u_sz.up (by decide), (Sz.int (z := (t : Int)) (n := 20) (by omega) (by decide)).up (by decide), (h.wat_in n).1.big n (by decide +kernel), (h.fh_in (N := N) t9).big n (by decide +kernel), ((h.inW n).sub (h.fh_in t9)).big n (by decide +kernel), bi.big n (by decide +kernel), ((h.inW n).sub bi).big n (by decide +kernel), by omega, h.mo.ne, by omega⟩
  in #guard_msgs (pass all) in example : True := trivial
set_option Elab.async true in
theorem KOk.boiled (h : KOk M L k) {t : Nat} (t9 : t ≤ 1000) : KOk M L (kb t k) := by
  unfold kb
  split
  · obtain ⟨b1, b2, b3⟩ := h.boil_in t9
    exact ⟨h.r0, h.r9, h.f0, h.f9, h.mo, h.ml, h.s0, b2, by have := h.vol; show k.s + boil k.s k.w k.fire k.mark ((t : Int) : Rat) ≤ _; grind, h.sd, b1⟩
  · exact h
  in #guard_msgs (pass all) in example : True := trivial
set_option Elab.async true in
theorem KOk.rbig (h : KOk M L k) (n : NOk M L N) : RBig k ∧ (∀ q, k.fire ≠ 0 → q = (k.w - wat k.s k.mark) / (k.fire : Rat) → Big q) := by
  have f0 := h.f0
  have f9 := h.f9
  have q1 : ∀ q, k.fire ≠ 0 → q = (k.w - wat k.s k.mark) / (k.fire : Rat) → Big q := fun q fn e => by
    have i := (h.inW n).sub (h.wat_in n).1
    have f1 : 1 ≤ k.fire := by omega
    have er : (k.w - wat k.s k.mark) / (k.fire : Rat) = (k.w - wat k.s k.mark) * rq 1 k.fire := by
      unfold rq
      have : ((1 : Int) : Rat) = 1 := rfl
      rw [this]
      grind
    have d1 : Dv (M * L * k.fire.natAbs) q := by
      rw [e, er]
      exact (h.wd.sub h.wat_dv).mul (Dv.rq (by omega))
    have r0 : 0 ≤ rq 1 k.fire := rq_nn (by decide) (by omega)
    have r1 : rq 1 k.fire ≤ 1 := rq_le_one (by omega) (by omega)
    have lo := i.lo
    have hi := i.hi
    have abs : -61000000 ≤ q ∧ q ≤ 61000000 := by
      rw [e, er]
      generalize k.w - wat k.s k.mark = d at lo hi
      have a1 := Rat.mul_le_mul_of_nonneg_right hi r0
      have a2 := Rat.mul_le_mul_of_nonneg_right lo r0
      constructor <;> grind
    have b0 : 0 < M * L * k.fire.natAbs := Nat.mul_pos (Nat.mul_pos n.m0 n.l0) (by omega)
    have b9 : M * L * k.fire.natAbs ≤ 2 ^ 4000 := Nat.le_trans (Nat.mul_le_mul_left (M * L) (Nat.le_trans (show k.fire.natAbs ≤ 10000 by omega) (by decide +kernel : 10000 ≤ B60 * B60))) (Nat.le_trans (Nat.le_of_dvd n.n0 n.d) n.n9)
    exact big_in d1 b0 b9 (by grind) (by grind)
  refine ⟨⟨(h.inS n).big n (by decide +kernel), (h.inW n).big n (by decide +kernel), h.u_sz.up (by decide), (h.wat_in n).1.big n (by decide +kernel), ((h.inW n).sub (h.wat_in n).1).big n (by decide +kernel), by omega, h.mo.ne, fun q e => ?_⟩, q1⟩
  unfold rdy ready at e
  by_cases c1 : k.s = 0
  · rw [if_pos c1] at e; cases e
  rw [if_neg c1] at e
  by_cases c2 : wat k.s k.mark < k.w
  · rw [if_pos c2] at e
    by_cases c3 : (if k.on = true then k.fire else 0) = 0
    · rw [if_pos c3] at e; cases e
    · rw [if_neg c3] at e
      have ef : (if k.on = true then k.fire else 0) = k.fire := by
        by_cases o : k.on = true
        · rw [if_pos o]
        · exact absurd (if_neg o) c3
      rw [ef] at c3 e
      exact q1 _ c3 (Option.some.inj e).symm
  · rw [if_neg c2] at e
    rw [← Option.some.inj e]
    exact (Sz.int (z := 0) (n := 1) (by decide) (by decide) : Sz 1 ((0 : Int) : Rat)).up (by decide)
  in #guard_msgs (pass all) in example : True := trivial
set_option Elab.async true in
/-- juice that is poured in -/
theorem vbig {s w : Rat} (h : KOk M L k) (n : NOk M L N) (hs : In N 1000000000 s) (hw : In N 1000000000 w) : VBig k.s k.w s w ∧ Big (k.s + k.w) ∧ Big (s + w) := by
  have a := h.inS n
  have b := h.inW n
  refine ⟨⟨a.big n (by decide +kernel), b.big n (by decide +kernel), hs.big n (by decide +kernel), hw.big n (by decide +kernel), (a.add hs).big n (by decide +kernel), (b.add hw).big n (by decide +kernel), ((a.add hs).add (b.add hw)).big n (by decide +kernel)⟩, (a.add b).big n (by decide +kernel), (hs.add hw).big n (by decide +kernel)⟩
  in #guard_msgs (pass all) in example : True := trivial
set_option Elab.async true in
theorem SAny.sz {t : Rat} (h : SAny t) : Big t ∧ Big (1 - t) := by
  have a : Sz 6 t := ⟨by have := h.n; omega, by have := h.d; omega⟩
  have o : Sz 1 ((1 : Int) : Rat) := Sz.int (by decide) (by decide)
  have e : ((1 : Int) : Rat) = 1 := rfl
  rw [e] at o
  exact ⟨a.up (by decide), (o.sub a).up (by decide)⟩
  in #guard_msgs (pass all) in example : True := trivial
set_option Elab.async true in
theorem SAny.bd {t : Rat} (h : SAny t) : -13 ≤ t ∧ t ≤ 13 := by
  have e := rat_nd t
  have n := h.n
  have dp : 1 ≤ (t.den : Int) := by have := t.den_pos; omega
  have e13 : ((13 : Int) : Rat) = 13 := by decide +kernel
  have em : ((-13 : Int) : Rat) = -13 := by decide +kernel
  have d0 : (0 : Rat) < (((t.den : Nat) : Int) : Rat) := by
    have : ((0 : Int) : Rat) < (((t.den : Nat) : Int) : Rat) := Rat.intCast_lt_intCast.mpr (by omega)
    exact this
  rw [← e]
  constructor
  · refine le_div d0 ?_
    rw [← em, ← Rat.intCast_mul]
    refine Rat.intCast_le_intCast.mpr ?_
    have : -13 * (t.den : Int) ≤ -13 * 1 := by omega
    omega
  · refine div_le d0 ?_
    rw [← e13, ← Rat.intCast_mul]
    exact Rat.intCast_le_intCast.mpr (by omega)
  in #guard_msgs (pass all) in example : True := trivial
end
set_option Elab.async true in
theorem sh01 {t : Rat} (h : ShOk t) : 0 ≤ 1 - t ∧ 1 - t ≤ 1 := by
  obtain ⟨h1, h2, h3⟩ := h
  have a : 0 < t := num_pos.mp h1
  have b : t ≤ 1 := by
    rw [Rat.le_iff]
    have e1 : (1 : Rat).num = 1 := rfl
    have e2 : ((1 : Rat).den : Int) = 1 := rfl
    rw [e1, e2]
    omega
  constructor <;> grind
  in #guard_msgs (pass all) in example : True := trivial
set_option Elab.async true in
theorem mul_le' {a b : Rat} (ha : 0 ≤ a) (b0 : 0 ≤ b) (hb : b ≤ 1) : 0 ≤ a * b ∧ a * b ≤ a := by
  have := Rat.mul_le_mul_of_nonneg_left hb ha
  rw [Rat.mul_one] at this
  exact ⟨Rat.mul_nonneg ha b0, this⟩
  in #guard_msgs (pass all) in example : True := trivial
set_option Elab.async true in
theorem KOk.up {M M' L : Nat} {k : Ke} (h : KOk M L k) (d : M ∣ M') : KOk M' L k := ⟨h.r0, h.r9, h.f0, h.f9, h.mo, h.ml, h.s0, h.w0, h.vol, h.sd.up d, h.wd.up (Nat.mul_dvd_mul_right d L)⟩
  in #guard_msgs (pass all) in example : True := trivial
set_option Elab.async true in
theorem KOk.out {M L : Nat} {k : Ke} {t : Rat} (h : KOk M L k) (ok : ShOk t) : KOk (M * t.den) L (k.out t) := by
  obtain ⟨t0, t1⟩ := sh01 ok
  have td : Dv t.den (1 - t) := (Dv.int (M := t.den) 1).sub (Dv.den t)
  have s0 := h.s0
  have w0 := h.w0
  have a := mul_le' s0 t0 t1
  have b := mul_le' w0 t0 t1
  refine ⟨h.r0, h.r9, h.f0, h.f9, h.mo, h.ml, a.1, b.1, ?_, h.sd.mul td, ?_⟩
  · have := h.vol
    have := a.2
    have := b.2
    show k.s * (1 - t) + k.w * (1 - t) ≤ (k.room : Rat)
    grind
  · have e : M * t.den * L = M * L * t.den := by rw [Nat.mul_assoc, Nat.mul_comm t.den, ← Nat.mul_assoc]
    rw [e]
    exact h.wd.mul td
  in #guard_msgs (pass all) in example : True := trivial
set_option Elab.async true in
theorem KOk.inn {M L : Nat} {k : Ke} {s w : Rat} (h : KOk M L k) (s0 : 0 ≤ s) (w0 : 0 ≤ w) (sd : Dv M s) (wd : Dv (M * L) w) (nf : ¬ k.full s w) : KOk M L (k.inn s w) := by
  refine ⟨h.r0, h.r9, h.f0, h.f9, h.mo, h.ml, ?_, ?_, ?_, h.sd.add sd, h.wd.add wd⟩
  · have := h.s0; show 0 ≤ k.s + s; grind
  · have := h.w0; show 0 ≤ k.w + w; grind
  · exact Rat.not_lt.mp nf
  in #guard_msgs (pass all) in example : True := trivial
set_option Elab.async true in
theorem goff_in {M L N : Nat} {st : Str → Ke} {h : Nat} (n : NOk M L N) (h9 : h ≤ 1000) : ∀ (l : List Str) (g : Rat), (∀ x ∈ l, KOk M L (st x)) → Dv (M * L) g → 0 ≤ g → Dv (M * L) (goff h st l g) ∧ 0 ≤ goff h st l g ∧ goff h st l g ≤ g + 1000000 * (((l.length : Nat) : Int) : Rat)
  | [], g, _, d, g0 => ⟨d, g0, by
    have e : (((([] : List Str).length : Nat) : Int) : Rat) = 0 := rfl
    rw [e, Rat.mul_zero, Rat.add_zero]
    exact Rat.le_refl⟩
  | x :: r, g, ok, d, g0 => by
    have kx := ok x List.mem_cons_self
    obtain ⟨b1, b2, b3⟩ := kx.boil_in h9
    have w0 := kx.w0
    have w9 := kx.s9.2
    have dw : Dv (M * L) ((st x).w - (kb h (st x)).w) ∧ 0 ≤ (st x).w - (kb h (st x)).w ∧ (st x).w - (kb h (st x)).w ≤ 1000000 := by
      unfold kb
      split
      · refine ⟨kx.wd.sub b1, ?_, ?_⟩
        · show 0 ≤ (st x).w - boil _ _ _ _ _; grind
        · show (st x).w - boil _ _ _ _ _ ≤ _; grind
      · have e : (st x).w - (st x).w = 0 := by grind
        rw [e]
        exact ⟨Dv.zero, Rat.le_refl, by decide +kernel⟩
    obtain ⟨c1, c2, c3⟩ := goff_in n h9 r (g + ((st x).w - (kb h (st x)).w)) (fun y hy => ok y (List.mem_cons_of_mem _ hy)) (d.add dw.1) (by have := dw.2.1; grind)
    refine ⟨c1, c2, ?_⟩
    have e : ((((x :: r).length : Nat) : Int) : Rat) = (((r.length : Nat) : Int) : Rat) + 1 := by
      rw [List.length_cons, Int.natCast_add, Rat.intCast_add] <;> rfl
    rw [e]
    have := dw.2.2
    show goff h st r (g + ((st x).w - (kb h (st x)).w)) ≤ _
    grind
  in #guard_msgs (pass all) in example : True := trivial
set_option Elab.async true in
theorem KInv.nok {nms : List Str} {j M L : Nat} (j9 : j ≤ 400) (m0 : 0 < M) (m9 : M ≤ B60 * 144 ^ j) (l0 : 0 < L) (l9 : L ≤ 60 ^ 8) : NOk M L (M * L * (B60 * B60)) := ⟨m0, l0, Nat.mul_pos (Nat.mul_pos m0 l0) (by decide), n_bound m9 l9 j9, Nat.dvd_refl _⟩
  in #guard_msgs (pass all) in example : True := trivial
set_option Elab.async true in
theorem KInv.mono {nms : List Str} {j j' : Nat} {S : KS} (h : KInv nms j S) (le : j ≤ j') : KInv nms j' S := by
  obtain ⟨⟨M, L, m0, md, m9, l0, l9, ok, gd⟩, g0, g9, hr, n8⟩ := h
  exact ⟨⟨M, L, m0, md, Nat.le_trans m9 (Nat.mul_le_mul_left _ (Nat.pow_le_pow_right (by decide) le)), l0, l9, ok, gd⟩, g0, Rat.le_trans g9 (Rat.intCast_le_intCast.mpr (by omega)), by omega, n8⟩
  in #guard_msgs (pass all) in example : True := trivial
set_option Elab.async true in
/-- one kettle changed, the common bottom grown by so much -/
theorem KInv.step {nms : List Str} {j : Nat} {S S' : KS} (h : KInv nms j S) (c : Nat) (c0 : 0 < c) (c9 : c ≤ 144) (k : ∀ M L, 0 < M → B60 ∣ M → 0 < L → (∀ x ∈ nms, KOk M L (S.st x)) → ∀ x ∈ nms, KOk (M * c) L (S'.st x)) (eg : S'.gone = S.gone) (eh : S'.hour = S.hour) : KInv nms (j + 1) S' := by
  obtain ⟨⟨M, L, m0, md, m9, l0, l9, ok, gd⟩, g0, g9, hr, n8⟩ := h
  refine ⟨⟨M * c, L, Nat.mul_pos m0 c0, Nat.dvd_trans md (Nat.dvd_mul_right _ _), ?_, l0, l9, k M L m0 md l0 ok, ?_⟩, by rw [eg]; exact g0, ?_, by rw [eh]; omega, n8⟩
  · rw [Nat.pow_succ, ← Nat.mul_assoc]
    exact Nat.mul_le_mul m9 c9
  · rw [eg]
    exact gd.up (Nat.mul_dvd_mul_right (Nat.dvd_mul_right _ _) L)
  · rw [eg]
    exact Rat.le_trans g9 (Rat.intCast_le_intCast.mpr (by omega))
  in #guard_msgs (pass all) in example : True := trivial
set_option Elab.async true in
theorem put_ok {M L : Nat} {nms : List Str} {S : KS} {x : Str} {k : Ke} (ok : ∀ y ∈ nms, KOk M L (S.st y)) (h : KOk M L k) : ∀ y ∈ nms, KOk M L ((S.put x k).st y) := fun y hy => by
  show KOk M L (set1 S.st x k y)
  by_cases e : y = x
  · rw [e, set1_same]; exact h
  · rw [set1_ne e]; exact ok y hy
  in #guard_msgs (pass all) in example : True := trivial
theorem sh_bottom {t : Rat} (ok : ShOk t) : 0 < t.den ∧ t.den ≤ 12 := ⟨t.den_pos, by obtain ⟨h1, h2, h3⟩ := ok; omega⟩
set_option Elab.async true in
/-- the part that is taken -/
theorem KOk.part {M L : Nat} {k : Ke} {t : Rat} (h : KOk M L k) (t0 : 0 ≤ t) (t1 : t ≤ 1) : 0 ≤ k.s * t ∧ k.s * t ≤ k.s ∧ 0 ≤ k.w * t ∧ k.w * t ≤ k.w ∧ Dv (M * t.den) (k.s * t) ∧ Dv (M * t.den * L) (k.w * t) := by
  have s0 := h.s0
  have w0 := h.w0
  have e : M * t.den * L = M * L * t.den := by rw [Nat.mul_assoc, Nat.mul_comm t.den, ← Nat.mul_assoc]
  refine ⟨Rat.mul_nonneg s0 t0, ?_, Rat.mul_nonneg w0 t0, ?_, h.sd.mul (Dv.den t), by rw [e]; exact h.wd.mul (Dv.den t)⟩
  · have := Rat.mul_le_mul_of_nonneg_left t1 s0; rw [Rat.mul_one] at this; exact this
  · have := Rat.mul_le_mul_of_nonneg_left t1 w0; rw [Rat.mul_one] at this; exact this
  in #guard_msgs (pass all) in example : True := trivial
set_option Elab.async true in
theorem kstep_inv {nms : List Str} {j : Nat} {S : KS} {D : KD} (h : KInv nms j S) (j9 : j ≤ 400) (ok : KDOk nms S D) : KInv nms (j + 1) (kstep nms D S).1 := by
  have up := h.mono (Nat.le_succ j)
  cases D with
  | boil t =>
    have t9 : t ≤ 1000 := ok
    obtain ⟨⟨M, L, m0, md, m9, l0, l9, okk, gd⟩, g0, g9, hr, n8⟩ := h
    have n := KInv.nok (nms := nms) j9 m0 m9 l0 l9
    obtain ⟨c1, c2, c3⟩ := goff_in n t9 nms S.gone okk gd g0
    refine ⟨⟨M, L, m0, md, Nat.le_trans m9 (Nat.mul_le_mul_left _ (Nat.pow_le_pow_right (by decide) (Nat.le_succ j))), l0, l9, fun x hx => (okk x hx).boiled t9, c1⟩, c2, ?_, ?_, n8⟩
    · have e1 : (((nms.length : Nat) : Int) : Rat) ≤ ((8 : Int) : Rat) := Rat.intCast_le_intCast.mpr (by omega)
      have e2 : ((8 : Int) : Rat) = 8 := by decide +kernel
      have e3 : (((8000000 * (j + 1) : Nat) : Int) : Rat) = (((8000000 * j : Nat) : Int) : Rat) + 8000000 := by
        have : ((8000000 : Int) : Rat) = 8000000 := by decide +kernel
        rw [← this, ← Rat.intCast_add]
        congr 1
      rw [e2] at e1
      rw [e3]
      show goff t S.st nms S.gone ≤ _
      grind
    · show S.hour + t ≤ 1000 * (j + 1)
      omega
  | pour x s w =>
    obtain ⟨kn, s0, s9, w0, w9, pd⟩ := ok
    unfold kstep
    dsimp only
    by_cases c1 : x ∉ nms
    · rw [if_pos c1]; exact up
    rw [if_neg c1]
    by_cases c2 : (S.st x).full s w
    · rw [if_pos c2]; exact up
    rw [if_neg c2]
    have hx := Classical.not_not.mp c1
    refine h.step 1 (by decide) (by decide) (fun M L m0 md l0 okk => ?_) rfl rfl
    rw [Nat.mul_one]
    obtain ⟨sd, wd⟩ := (pd M L md okk).2 hx c2
    exact put_ok okk ((okk x hx).inn s0 w0 sd wd c2)
  | dip x t =>
    unfold kstep
    dsimp only
    by_cases c1 : x ∉ nms
    · rw [if_pos c1]; exact up
    rw [if_neg c1]
    by_cases c2 : ¬ ShOk t
    · rw [if_pos c2]; exact up
    rw [if_neg c2]
    by_cases c3 : (S.st x).nil
    · rw [if_pos c3]; exact up
    rw [if_neg c3]
    have hx := Classical.not_not.mp c1
    have ok := Classical.not_not.mp c2
    obtain ⟨d0, d9⟩ := sh_bottom ok
    exact h.step t.den d0 (by omega) (fun M L m0 md l0 okk => put_ok (fun y hy => (okk y hy).up (Nat.dvd_mul_right _ _)) ((okk x hx).out ok)) rfl rfl
  | ladle x y t =>
    unfold kstep
    dsimp only
    by_cases c1 : x ∉ nms
    · rw [if_pos c1]; exact up
    rw [if_neg c1]
    by_cases c2 : y ∉ nms
    · rw [if_pos c2]; exact up
    rw [if_neg c2]
    by_cases c3 : x = y
    · rw [if_pos c3]; exact up
    rw [if_neg c3]
    by_cases c4 : ¬ ShOk t
    · rw [if_pos c4]; exact up
    rw [if_neg c4]
    by_cases c5 : (S.st x).nil
    · rw [if_pos c5]; exact up
    rw [if_neg c5]
    by_cases c6 : (S.st y).full ((S.st x).s * t) ((S.st x).w * t)
    · rw [if_pos c6]; exact up
    rw [if_neg c6]
    have hx := Classical.not_not.mp c1
    have hy := Classical.not_not.mp c2
    have ok := Classical.not_not.mp c4
    obtain ⟨d0, d9⟩ := sh_bottom ok
    obtain ⟨t0, t1⟩ := sh01 ok
    refine h.step t.den d0 (by omega) (fun M L m0 md l0 okk => ?_) rfl rfl
    have t00 : 0 ≤ t := by grind
    have t11 : t ≤ 1 := by grind
    obtain ⟨p1, p2, p3, p4, p5, p6⟩ := (okk x hx).part t00 t11
    exact put_ok (put_ok (fun y hy => (okk y hy).up (Nat.dvd_mul_right _ _)) (((okk y hy).up (Nat.dvd_mul_right _ _)).inn p1 p3 p5 p6 c6)) ((okk x hx).out ok)
  | skim x t g y =>
    unfold kstep
    dsimp only
    by_cases c1 : x ∉ nms
    · rw [if_pos c1]; exact up
    rw [if_neg c1]
    by_cases c2 : y ∉ nms
    · rw [if_pos c2]; exact up
    rw [if_neg c2]
    by_cases c4 : ¬ ShOk t
    · rw [if_pos c4]; exact up
    rw [if_neg c4]
    by_cases c7 : g ≠ 0 ∧ ¬ ShOk g
    · rw [if_pos c7]; exact up
    rw [if_neg c7]
    by_cases c5 : (S.st x).nil
    · rw [if_pos c5]; exact up
    rw [if_neg c5]
    by_cases c6 : (Ke.bef S x y t).full ((S.st x).s * t * g) ((S.st x).w * t * g)
    · rw [if_pos c6]; exact up
    rw [if_neg c6]
    have hx := Classical.not_not.mp c1
    have hy := Classical.not_not.mp c2
    have ok := Classical.not_not.mp c4
    obtain ⟨d0, d9⟩ := sh_bottom ok
    obtain ⟨t0, t1⟩ := sh01 ok
    have t00 : 0 ≤ t := by grind
    have t11 : t ≤ 1 := by grind
    obtain ⟨g0, g1, e0, e9⟩ : 0 ≤ g ∧ g ≤ 1 ∧ 0 < g.den ∧ g.den ≤ 12 := by
      by_cases z : g = 0
      · rw [z]
        exact ⟨Rat.le_refl, by decide +kernel, by decide, by decide⟩
      · have og : ShOk g := Classical.byContradiction fun q => c7 ⟨z, q⟩
        obtain ⟨a, b⟩ := sh01 og
        obtain ⟨c, d⟩ := sh_bottom og
        exact ⟨by grind, by grind, c, d⟩
    refine h.step (t.den * g.den) (Nat.mul_pos d0 e0) (Nat.le_trans (Nat.mul_le_mul d9 e9) (by decide)) (fun M L m0 md l0 okk => ?_) rfl rfl
    obtain ⟨p1, p2, p3, p4, p5, p6⟩ := (okk x hx).part t00 t11
    have ox := (okk x hx).out ok
    have em : M * (t.den * g.den) = M * t.den * g.den := (Nat.mul_assoc _ _ _).symm
    have el : M * t.den * g.den * L = M * t.den * L * g.den := by rw [Nat.mul_assoc (M * t.den), Nat.mul_comm g.den, ← Nat.mul_assoc]
    rw [em]
    have upx := ox.up (M' := M * t.den * g.den) (Nat.dvd_mul_right _ _)
    have ob : KOk (M * t.den * g.den) L (Ke.bef S x y t) := by
      unfold Ke.bef
      split
      · exact upx
      · exact (okk y hy).up (Nat.dvd_trans (Nat.dvd_mul_right _ _) (Nat.dvd_mul_right _ _))
    refine put_ok (put_ok (fun z hz => (okk z hz).up (Nat.dvd_trans (Nat.dvd_mul_right _ _) (Nat.dvd_mul_right _ _))) upx) (ob.inn (Rat.mul_nonneg p1 g0) (Rat.mul_nonneg p3 g0) (p5.mul (Dv.den g)) (by rw [el]; exact p6.mul (Dv.den g)) c6)
  | stop x =>
    unfold kstep
    dsimp only
    by_cases c1 : x ∉ nms
    · rw [if_pos c1]; exact up
    rw [if_neg c1]
    by_cases c2 : (S.st x).on = false
    · rw [if_pos c2]; exact up
    rw [if_neg c2]
    have hx := Classical.not_not.mp c1
    refine h.step 1 (by decide) (by decide) (fun M L m0 md l0 okk => ?_) rfl rfl
    rw [Nat.mul_one]
    have o := okk x hx
    exact put_ok okk ⟨o.r0, o.r9, o.f0, o.f9, o.mo, o.ml, o.s0, o.w0, o.vol, o.sd, o.wd⟩
  | start x =>
    unfold kstep
    dsimp only
    by_cases c1 : x ∉ nms
    · rw [if_pos c1]; exact up
    rw [if_neg c1]
    by_cases c2 : (S.st x).on = true
    · rw [if_pos c2]; exact up
    rw [if_neg c2]
    have hx := Classical.not_not.mp c1
    refine h.step 1 (by decide) (by decide) (fun M L m0 md l0 okk => ?_) rfl rfl
    rw [Nat.mul_one]
    have o := okk x hx
    exact put_ok okk ⟨o.r0, o.r9, o.f0, o.f9, o.mo, o.ml, o.s0, o.w0, o.vol, o.sd, o.wd⟩
  in #guard_msgs (pass all) in example : True := trivial
set_option Elab.async true in
theorem KInv.get {nms : List Str} {j : Nat} {S : KS} (h : KInv nms j S) (j9 : j ≤ 400) : ∃ M L N : Nat, NOk M L N ∧ B60 ∣ M ∧ (∀ x ∈ nms, KOk M L (S.st x)) ∧ Dv (M * L) S.gone := by
  obtain ⟨⟨M, L, m0, md, m9, l0, l9, okk, gd⟩, _⟩ := h
  exact ⟨M, L, _, KInv.nok (nms := nms) j9 m0 m9 l0 l9, md, okk, gd⟩
  in #guard_msgs (pass all) in example : True := trivial
theorem SAny.dd {t : Rat} (h : SAny t) : t.den ∣ B60 := b60 _ t.den_pos h.d
section
variable {M L N : Nat} {k : Ke} {t g : Rat}
set_option Elab.async true in
theorem bd_mul {a b x y : Rat} (hx : 0 ≤ x ∧ x ≤ a) (hy : -b ≤ y ∧ y ≤ b) : -(a * b) ≤ x * y ∧ x * y ≤ a * b := by
  obtain ⟨x0, x1⟩ := hx
  obtain ⟨y0, y1⟩ := hy
  have b0 : 0 ≤ b := by grind
  have k1 := Rat.mul_le_mul_of_nonneg_left y1 x0
  have k2 := Rat.mul_le_mul_of_nonneg_left y0 x0
  have k3 := Rat.mul_le_mul_of_nonneg_right x1 b0
  constructor <;> grind
  in #guard_msgs (pass all) in example : True := trivial
set_option Elab.async true in
theorem KOk.part_in (h : KOk M L k) (n : NOk M L N) (ht : SAny t) : In N 13000000 (k.s * t) ∧ In N 13000000 (k.w * t) := by
  have d1 : M * t.den ∣ N := Nat.dvd_trans (Nat.mul_dvd_mul_left M (Nat.dvd_trans ht.dd (Nat.dvd_trans (Nat.dvd_mul_right B60 B60) (Nat.dvd_mul_left _ L)))) (by rw [← Nat.mul_assoc]; exact n.d)
  have d2 : M * L * t.den ∣ N := Nat.dvd_trans (Nat.mul_dvd_mul_left (M * L) (Nat.dvd_trans ht.dd (Nat.dvd_mul_right B60 B60))) n.d
  have a := bd_mul ⟨h.s0, h.s9.1⟩ ht.bd
  have b := bd_mul ⟨h.w0, h.s9.2⟩ ht.bd
  have e : (1000000 : Rat) * 13 = 13000000 := by decide +kernel
  rw [e] at a b
  exact ⟨⟨(h.sd.mul (Dv.den t)).up d1, a.1, a.2⟩, ⟨(h.wd.mul (Dv.den t)).up d2, b.1, b.2⟩⟩
  in #guard_msgs (pass all) in example : True := trivial
set_option Elab.async true in
theorem KOk.part2_in (h : KOk M L k) (n : NOk M L N) (ht : SAny t) (hg : SAny g) : In N 169000000 (k.s * t * g) ∧ In N 169000000 (k.w * t * g) := by
  have db : t.den * g.den ∣ B60 * B60 := Nat.mul_dvd_mul ht.dd hg.dd
  have d1 : M * (t.den * g.den) ∣ N := Nat.dvd_trans (Nat.mul_dvd_mul_left M (Nat.dvd_trans db (Nat.dvd_mul_left _ L))) (by rw [← Nat.mul_assoc]; exact n.d)
  have d2 : M * L * (t.den * g.den) ∣ N := Nat.dvd_trans (Nat.mul_dvd_mul_left (M * L) db) n.d
  have tg : -(13 * 13) ≤ t * g ∧ t * g ≤ 13 * 13 := by
    obtain ⟨g0, g1⟩ := hg.bd
    obtain ⟨t0, t1⟩ := ht.bd
    by_cases c : 0 ≤ t
    · exact bd_mul ⟨c, t1⟩ ⟨g0, g1⟩
    · have := bd_mul (x := -t) (a := 13) ⟨by grind, by grind⟩ ⟨g0, g1⟩
      constructor <;> grind
  have a := bd_mul ⟨h.s0, h.s9.1⟩ tg
  have b := bd_mul ⟨h.w0, h.s9.2⟩ tg
  have e : (1000000 : Rat) * (13 * 13) = 169000000 := by decide +kernel
  rw [e] at a b
  have m1 : k.s * t * g = k.s * (t * g) := by grind
  have m2 : k.w * t * g = k.w * (t * g) := by grind
  rw [m1, m2]
  exact ⟨⟨(h.sd.mul ((Dv.den t).mul (Dv.den g))).up d1, a.1, a.2⟩, ⟨(h.wd.mul ((Dv.den t).mul (Dv.den g))).up d2, b.1, b.2⟩⟩
  in #guard_msgs (pass all) in example : True := trivial
set_option Elab.async true in
/-- juice poured into a kettle, or into what is left of it -/
theorem vbig2 {s w : Rat} {a b : Rat} (n : NOk M L N) (ha : In N 1000000000 a) (hb : In N 1000000000 b) (hs : In N 1000000000 s) (hw : In N 1000000000 w) : VBig a b s w ∧ Big (a + b) ∧ Big (s + w) :=
  ⟨⟨ha.big n (by decide +kernel), hb.big n (by decide +kernel), hs.big n (by decide +kernel), hw.big n (by decide +kernel), (ha.add hs).big n (by decide +kernel), (hb.add hw).big n (by decide +kernel), ((ha.add hs).add (hb.add hw)).big n (by decide +kernel)⟩, (ha.add hb).big n (by decide +kernel), (hs.add hw).big n (by decide +kernel)⟩
  in #guard_msgs (pass all) in example : True := trivial
set_option Elab.async true in
theorem KOk.out_in (h : KOk M L k) (n : NOk M L N) (ht : SAny t) : In N 14000000 (k.out t).s ∧ In N 14000000 (k.out t).w := by
  obtain ⟨a, b⟩ := h.part_in n ht
  have x := (h.inS n).sub a
  have y := (h.inW n).sub b
  have e1 : k.s - k.s * t = (k.out t).s := by show k.s - k.s * t = k.s * (1 - t); grind
  have e2 : k.w - k.w * t = (k.out t).w := by show k.w - k.w * t = k.w * (1 - t); grind
  rw [e1] at x
  rw [e2] at y
  exact ⟨x.mono (by decide +kernel), y.mono (by decide +kernel)⟩
  in #guard_msgs (pass all) in example : True := trivial
set_option Elab.async true in
theorem bef_in {S : KS} {x y : Str} (hx : KOk M L (S.st x)) (hy : KOk M L (S.st y)) (n : NOk M L N) (ht : SAny t) : In N 14000000 (Ke.bef S x y t).s ∧ In N 14000000 (Ke.bef S x y t).w ∧ (Ke.bef S x y t).room = (S.st y).room := by
  unfold Ke.bef
  split
  · rename_i c
    obtain ⟨a, b⟩ := hx.out_in n ht
    exact ⟨a, b, by rw [c] <;> rfl⟩
  · exact ⟨(hy.inS n).mono (by decide +kernel), (hy.inW n).mono (by decide +kernel), rfl⟩
  in #guard_msgs (pass all) in example : True := trivial
end
/-- a fault that the law found: the deed is refused so -/
def Flt (K : PySem.W.Frag) (H : Hp) (nms : List Str) (D : KD) (S : KS) (fv : V) : Prop := ∃ z, fv = .ref z ∧ Dtu K H 4 (.ref z) (kstep nms D S).2 ∧ (kstep nms D S).1 = S
set_option Elab.async true in
theorem refu_dtu {K : PySem.W.Frag} {H : Hp} {a : Addr} {w : Str} {v : V} {d : PyData} (h : SqT K H a [.str "refused", .str w, v]) (l1 : PyData.canLay0 (.str w) = true) (hv : Dtu K H 3 v d) : Dtu K H 4 (.ref a) (refu w d) :=
  DtuAll.tup (.cons (.str _ _ (by decide +kernel)) (.cons (.str _ _ l1) (.cons hv .nil))) h (by show 3 ≤ 100000; decide)
  in #guard_msgs (pass all) in example : True := trivial
set_option Elab.async true in
theorem told_dtu {K : PySem.W.Frag} {H : Hp} {a : Addr} {v : V} {d : PyData} {n : Nat} (h : SqT K H a [.str "told", v]) (hv : Dtu K H (n + 1) v d) : Dtu K H (n + 2) (.ref a) (toldD d) :=
  DtuAll.tup (.cons (.str _ _ (by decide +kernel)) (.cons hv .nil)) h (by show 2 ≤ 100000; decide)
  in #guard_msgs (pass all) in example : True := trivial
def KLay (nms : List Str) : Prop := ∀ x ∈ nms, PyData.canLay0 (.str x) = true
set_option Elab.async true in
theorem KNm.lay {nms : List Str} {x : Str} (h : KNm nms x) (l : KLay nms) : PyData.canLay0 (.str x) = true := by
  rcases h with h | h
  · exact l x h
  · subst h; decide +kernel
  in #guard_msgs (pass all) in example : True := trivial
theorem nw {a b : Str} (h : a ≠ b) : decide (V.str a = V.str b) = false := decide_eq_false fun z => h (V.str.inj z)
end KR
namespace KR
open PySem PySem.Spec PyProof.Rows L2
def top (i : Nat) : Stmt := PySem.Challenge.pw_kettlerow_k27_nothing_is_lost_but_told.main.body.getD i (.Pass ⟨0, 0, 0, 0⟩)
def clsBody : Stmt → List Stmt
  | .ClassDef (body := b) .. => b
  | _ => []
abbrev s_Kettles__named : Stmt := (clsBody (top 74)).getD 17 (.Pass ⟨0, 0, 0, 0⟩)
set_option Elab.async true in
theorem sc_Kettles__named : FnScope ["self", "name"] ["self", "name"] (defScope s_Kettles__named) := ⟨rfl, rfl, rfl, by decide +kernel, rfl, by decide +kernel, by decide +kernel⟩
  in #guard_msgs (pass all) in example : True := trivial
abbrev s_Kettles_boiled_off : Stmt := (clsBody (top 74)).getD 15 (.Pass ⟨0, 0, 0, 0⟩)
set_option Elab.async true in
theorem sc_Kettles_boiled_off : FnScope ["self"] ["self"] (defScope s_Kettles_boiled_off) := ⟨rfl, rfl, rfl, by decide +kernel, rfl, by decide +kernel, by decide +kernel⟩
  in #guard_msgs (pass all) in example : True := trivial
abbrev s_Kettles_juice_of : Stmt := (clsBody (top 74)).getD 11 (.Pass ⟨0, 0, 0, 0⟩)
set_option Elab.async true in
theorem sc_Kettles_juice_of : FnScope ["self", "kettle"] ["self", "kettle"] (defScope s_Kettles_juice_of) := ⟨rfl, rfl, rfl, by decide +kernel, rfl, by decide +kernel, by decide +kernel⟩
  in #guard_msgs (pass all) in example : True := trivial
abbrev s_Kettles_start : Stmt := (clsBody (top 74)).getD 8 (.Pass ⟨0, 0, 0, 0⟩)
set_option Elab.async true in
theorem sc_Kettles_start : FnScope ["self", "kettle", "started"] ["self", "kettle"] (defScope s_Kettles_start) := ⟨rfl, rfl, rfl, by decide +kernel, rfl, by decide +kernel, by decide +kernel⟩
  in #guard_msgs (pass all) in example : True := trivial
abbrev s_Kettles_stop : Stmt := (clsBody (top 74)).getD 7 (.Pass ⟨0, 0, 0, 0⟩)
set_option Elab.async true in
theorem sc_Kettles_stop : FnScope ["self", "kettle", "stopped"] ["self", "kettle"] (defScope s_Kettles_stop) := ⟨rfl, rfl, rfl, by decide +kernel, rfl, by decide +kernel, by decide +kernel⟩
  in #guard_msgs (pass all) in example : True := trivial
abbrev s_Kettles_skim : Stmt := (clsBody (top 74)).getD 6 (.Pass ⟨0, 0, 0, 0⟩)
set_option Elab.async true in
theorem sc_Kettles_skim : FnScope ["self", "kettle", "share", "given", "other", "source", "into", "skimmed", "left", "poured", "before", "behind"] ["self", "kettle", "share", "given", "other"] (defScope s_Kettles_skim) := ⟨rfl, rfl, rfl, by decide +kernel, rfl, by decide +kernel, by decide +kernel⟩
  in #guard_msgs (pass all) in example : True := trivial
abbrev s_Kettles_ladle : Stmt := (clsBody (top 74)).getD 5 (.Pass ⟨0, 0, 0, 0⟩)
set_option Elab.async true in
theorem sc_Kettles_ladle : FnScope ["self", "one", "other", "share", "source", "into"] ["self", "one", "other", "share"] (defScope s_Kettles_ladle) := ⟨rfl, rfl, rfl, by decide +kernel, rfl, by decide +kernel, by decide +kernel⟩
  in #guard_msgs (pass all) in example : True := trivial
abbrev s_Kettles_take_out : Stmt := (clsBody (top 74)).getD 4 (.Pass ⟨0, 0, 0, 0⟩)
set_option Elab.async true in
theorem sc_Kettles_take_out : FnScope ["self", "kettle", "part", "source", "taken"] ["self", "kettle", "part"] (defScope s_Kettles_take_out) := ⟨rfl, rfl, rfl, by decide +kernel, rfl, by decide +kernel, by decide +kernel⟩
  in #guard_msgs (pass all) in example : True := trivial
abbrev s_Kettles_dip : Stmt := (clsBody (top 74)).getD 3 (.Pass ⟨0, 0, 0, 0⟩)
set_option Elab.async true in
theorem sc_Kettles_dip : FnScope ["self", "kettle", "share", "source"] ["self", "kettle", "share"] (defScope s_Kettles_dip) := ⟨rfl, rfl, rfl, by decide +kernel, rfl, by decide +kernel, by decide +kernel⟩
  in #guard_msgs (pass all) in example : True := trivial
abbrev s_Kettles_pour : Stmt := (clsBody (top 74)).getD 2 (.Pass ⟨0, 0, 0, 0⟩)
set_option Elab.async true in
theorem sc_Kettles_pour : FnScope ["self", "kettle", "juice", "into"] ["self", "kettle", "juice"] (defScope s_Kettles_pour) := ⟨rfl, rfl, rfl, by decide +kernel, rfl, by decide +kernel, by decide +kernel⟩
  in #guard_msgs (pass all) in example : True := trivial
abbrev s_Kettles_boil_on : Stmt := (clsBody (top 74)).getD 1 (.Pass ⟨0, 0, 0, 0⟩)
set_option Elab.async true in
theorem sc_Kettles_boil_on : FnScope ["self", "hours", "kettle"] ["self", "hours"] (defScope s_Kettles_boil_on) := ⟨rfl, rfl, rfl, by decide +kernel, rfl, by decide +kernel, by decide +kernel⟩
  in #guard_msgs (pass all) in example : True := trivial
abbrev s_Kettles_init : Stmt := (clsBody (top 74)).getD 0 (.Pass ⟨0, 0, 0, 0⟩)
set_option Elab.async true in
theorem sc_Kettles_init : FnScope ["self", "row", "name", "room", "fire", "mark"] ["self", "row"] (defScope s_Kettles_init) := ⟨rfl, rfl, rfl, by decide +kernel, rfl, by decide +kernel, by decide +kernel⟩
  in #guard_msgs (pass all) in example : True := trivial
abbrev s_Kettle_boil : Stmt := (clsBody (top 46)).getD 1 (.Pass ⟨0, 0, 0, 0⟩)
set_option Elab.async true in
theorem sc_Kettle_boil : FnScope ["self", "hours", "water"] ["self", "hours"] (defScope s_Kettle_boil) := ⟨rfl, rfl, rfl, by decide +kernel, rfl, by decide +kernel, by decide +kernel⟩
  in #guard_msgs (pass all) in example : True := trivial
abbrev s_Kettle_init : Stmt := (clsBody (top 46)).getD 0 (.Pass ⟨0, 0, 0, 0⟩)
set_option Elab.async true in
theorem sc_Kettle_init : FnScope ["self", "room", "fire", "mark"] ["self", "room", "fire", "mark"] (defScope s_Kettle_init) := ⟨rfl, rfl, rfl, by decide +kernel, rfl, by decide +kernel, by decide +kernel⟩
  in #guard_msgs (pass all) in example : True := trivial
abbrev s_SameRow_init : Stmt := (clsBody (top 59)).getD 0 (.Pass ⟨0, 0, 0, 0⟩)
set_option Elab.async true in
theorem sc_SameRow_init : FnScope ["self", "row"] ["self", "row"] (defScope s_SameRow_init) := ⟨rfl, rfl, rfl, by decide +kernel, rfl, by decide +kernel, by decide +kernel⟩
  in #guard_msgs (pass all) in example : True := trivial
abbrev s_Row_init : Stmt := (clsBody (top 58)).getD 0 (.Pass ⟨0, 0, 0, 0⟩)
set_option Elab.async true in
theorem sc_Row_init : FnScope ["self", "kettles", "moulds"] ["self", "kettles", "moulds"] (defScope s_Row_init) := ⟨rfl, rfl, rfl, by decide +kernel, rfl, by decide +kernel, by decide +kernel⟩
  in #guard_msgs (pass all) in example : True := trivial
abbrev s_p_is_number : Stmt := top 25
set_option Elab.async true in
theorem sc_p_is_number : FnScope ["thing"] ["thing"] (defScope s_p_is_number) := ⟨rfl, rfl, rfl, by decide +kernel, rfl, by decide +kernel, by decide +kernel⟩
  in #guard_msgs (pass all) in example : True := trivial
abbrev s_p_is_number_within : Stmt := top 26
set_option Elab.async true in
theorem sc_p_is_number_within : FnScope ["thing", "least", "most"] ["thing", "least", "most"] (defScope s_p_is_number_within) := ⟨rfl, rfl, rfl, by decide +kernel, rfl, by decide +kernel, by decide +kernel⟩
  in #guard_msgs (pass all) in example : True := trivial
abbrev s_p_is_frac : Stmt := top 30
set_option Elab.async true in
theorem sc_p_is_frac : FnScope ["thing", "top", "bottom"] ["thing"] (defScope s_p_is_frac) := ⟨rfl, rfl, rfl, by decide +kernel, rfl, by decide +kernel, by decide +kernel⟩
  in #guard_msgs (pass all) in example : True := trivial
abbrev s_p_frac_of : Stmt := top 31
set_option Elab.async true in
theorem sc_p_frac_of : FnScope ["top", "bottom", "common"] ["top", "bottom"] (defScope s_p_frac_of) := ⟨rfl, rfl, rfl, by decide +kernel, rfl, by decide +kernel, by decide +kernel⟩
  in #guard_msgs (pass all) in example : True := trivial
abbrev s_p_sum_of : Stmt := top 32
set_option Elab.async true in
theorem sc_p_sum_of : FnScope ["one", "other"] ["one", "other"] (defScope s_p_sum_of) := ⟨rfl, rfl, rfl, by decide +kernel, rfl, by decide +kernel, by decide +kernel⟩
  in #guard_msgs (pass all) in example : True := trivial
abbrev s_p_difference : Stmt := top 33
set_option Elab.async true in
theorem sc_p_difference : FnScope ["one", "other"] ["one", "other"] (defScope s_p_difference) := ⟨rfl, rfl, rfl, by decide +kernel, rfl, by decide +kernel, by decide +kernel⟩
  in #guard_msgs (pass all) in example : True := trivial
abbrev s_p_product : Stmt := top 34
set_option Elab.async true in
theorem sc_p_product : FnScope ["one", "other"] ["one", "other"] (defScope s_p_product) := ⟨rfl, rfl, rfl, by decide +kernel, rfl, by decide +kernel, by decide +kernel⟩
  in #guard_msgs (pass all) in example : True := trivial
abbrev s_p_is_lesser : Stmt := top 35
set_option Elab.async true in
theorem sc_p_is_lesser : FnScope ["one", "other"] ["one", "other"] (defScope s_p_is_lesser) := ⟨rfl, rfl, rfl, by decide +kernel, rfl, by decide +kernel, by decide +kernel⟩
  in #guard_msgs (pass all) in example : True := trivial
abbrev s_p_mixed : Stmt := top 38
set_option Elab.async true in
theorem sc_p_mixed : FnScope ["one", "other"] ["one", "other"] (defScope s_p_mixed) := ⟨rfl, rfl, rfl, by decide +kernel, rfl, by decide +kernel, by decide +kernel⟩
  in #guard_msgs (pass all) in example : True := trivial
abbrev s_p_share_of : Stmt := top 39
set_option Elab.async true in
theorem sc_p_share_of : FnScope ["juice", "share"] ["juice", "share"] (defScope s_p_share_of) := ⟨rfl, rfl, rfl, by decide +kernel, rfl, by decide +kernel, by decide +kernel⟩
  in #guard_msgs (pass all) in example : True := trivial
abbrev s_p_rest_of : Stmt := top 40
set_option Elab.async true in
theorem sc_p_rest_of : FnScope ["juice", "share"] ["juice", "share"] (defScope s_p_rest_of) := ⟨rfl, rfl, rfl, by decide +kernel, rfl, by decide +kernel, by decide +kernel⟩
  in #guard_msgs (pass all) in example : True := trivial
abbrev s_p_volume_of : Stmt := top 41
set_option Elab.async true in
theorem sc_p_volume_of : FnScope ["juice"] ["juice"] (defScope s_p_volume_of) := ⟨rfl, rfl, rfl, by decide +kernel, rfl, by decide +kernel, by decide +kernel⟩
  in #guard_msgs (pass all) in example : True := trivial
abbrev s_p_water_at : Stmt := top 43
set_option Elab.async true in
theorem sc_p_water_at : FnScope ["sugar", "mark"] ["sugar", "mark"] (defScope s_p_water_at) := ⟨rfl, rfl, rfl, by decide +kernel, rfl, by decide +kernel, by decide +kernel⟩
  in #guard_msgs (pass all) in example : True := trivial
abbrev s_p_boiled_down : Stmt := top 44
set_option Elab.async true in
theorem sc_p_boiled_down : FnScope ["juice", "fire", "mark", "hours", "sugar", "water", "least", "left"] ["juice", "fire", "mark", "hours"] (defScope s_p_boiled_down) := ⟨rfl, rfl, rfl, by decide +kernel, rfl, by decide +kernel, by decide +kernel⟩
  in #guard_msgs (pass all) in example : True := trivial
abbrev s_p_is_name : Stmt := top 49
set_option Elab.async true in
theorem sc_p_is_name : FnScope ["thing", "letter"] ["thing"] (defScope s_p_is_name) := ⟨rfl, rfl, rfl, by decide +kernel, rfl, by decide +kernel, by decide +kernel⟩
  in #guard_msgs (pass all) in example : True := trivial
abbrev s_p_are_unlike : Stmt := top 50
set_option Elab.async true in
theorem sc_p_are_unlike : FnScope ["names"] ["names"] (defScope s_p_are_unlike) := ⟨rfl, rfl, rfl, by decide +kernel, rfl, by decide +kernel, by decide +kernel⟩
  in #guard_msgs (pass all) in example : True := trivial
abbrev s_p_is_kettle : Stmt := top 60
set_option Elab.async true in
theorem sc_p_is_kettle : FnScope ["thing", "name", "room", "fire", "mark"] ["thing"] (defScope s_p_is_kettle) := ⟨rfl, rfl, rfl, by decide +kernel, rfl, by decide +kernel, by decide +kernel⟩
  in #guard_msgs (pass all) in example : True := trivial
abbrev s_p_is_mould : Stmt := top 61
set_option Elab.async true in
theorem sc_p_is_mould : FnScope ["thing", "name", "room", "drip"] ["thing"] (defScope s_p_is_mould) := ⟨rfl, rfl, rfl, by decide +kernel, rfl, by decide +kernel, by decide +kernel⟩
  in #guard_msgs (pass all) in example : True := trivial
abbrev s_p__can_be_kettles : Stmt := top 62
set_option Elab.async true in
theorem sc_p__can_be_kettles : FnScope ["things", "thing"] ["things"] (defScope s_p__can_be_kettles) := ⟨rfl, rfl, rfl, by decide +kernel, rfl, by decide +kernel, by decide +kernel⟩
  in #guard_msgs (pass all) in example : True := trivial
abbrev s_p__can_be_moulds : Stmt := top 63
set_option Elab.async true in
theorem sc_p__can_be_moulds : FnScope ["things", "kettles", "thing", "one"] ["things", "kettles"] (defScope s_p__can_be_moulds) := ⟨rfl, rfl, rfl, by decide +kernel, rfl, by decide +kernel, by decide +kernel⟩
  in #guard_msgs (pass all) in example : True := trivial
abbrev s_p__are_name_and_room : Stmt := top 64
set_option Elab.async true in
theorem sc_p__are_name_and_room : FnScope ["name", "room"] ["name", "room"] (defScope s_p__are_name_and_room) := ⟨rfl, rfl, rfl, by decide +kernel, rfl, by decide +kernel, by decide +kernel⟩
  in #guard_msgs (pass all) in example : True := trivial
abbrev s_p__is_mark : Stmt := top 65
set_option Elab.async true in
theorem sc_p__is_mark : FnScope ["thing"] ["thing"] (defScope s_p__is_mark) := ⟨rfl, rfl, rfl, by decide +kernel, rfl, by decide +kernel, by decide +kernel⟩
  in #guard_msgs (pass all) in example : True := trivial
abbrev s_p__is_drip : Stmt := top 66
set_option Elab.async true in
theorem sc_p__is_drip : FnScope ["thing"] ["thing"] (defScope s_p__is_drip) := ⟨rfl, rfl, rfl, by decide +kernel, rfl, by decide +kernel, by decide +kernel⟩
  in #guard_msgs (pass all) in example : True := trivial
abbrev s_p_need_share : Stmt := top 69
set_option Elab.async true in
theorem sc_p_need_share : FnScope ["share", "top", "bottom"] ["share"] (defScope s_p_need_share) := ⟨rfl, rfl, rfl, by decide +kernel, rfl, by decide +kernel, by decide +kernel⟩
  in #guard_msgs (pass all) in example : True := trivial
abbrev s_p_need_some : Stmt := top 71
set_option Elab.async true in
theorem sc_p_need_some : FnScope ["name", "juice"] ["name", "juice"] (defScope s_p_need_some) := ⟨rfl, rfl, rfl, by decide +kernel, rfl, by decide +kernel, by decide +kernel⟩
  in #guard_msgs (pass all) in example : True := trivial
abbrev s_p_poured_into : Stmt := top 72
set_option Elab.async true in
theorem sc_p_poured_into : FnScope ["name", "room", "juice", "more", "whole"] ["name", "room", "juice", "more"] (defScope s_p_poured_into) := ⟨rfl, rfl, rfl, by decide +kernel, rfl, by decide +kernel, by decide +kernel⟩
  in #guard_msgs (pass all) in example : True := trivial
abbrev s_l_cell_at : Stmt := top 76
set_option Elab.async true in
theorem sc_l_cell_at : FnScope ["_law_script", "_law_k"] ["_law_script", "_law_k"] (defScope s_l_cell_at) := ⟨rfl, rfl, rfl, by decide +kernel, rfl, by decide +kernel, by decide +kernel⟩
  in #guard_msgs (pass all) in example : True := trivial
abbrev s_l_box : Stmt := top 77
set_option Elab.async true in
theorem sc_l_box : FnScope ["_law_script", "_law_k", "_law_cell"] ["_law_script", "_law_k"] (defScope s_l_box) := ⟨rfl, rfl, rfl, by decide +kernel, rfl, by decide +kernel, by decide +kernel⟩
  in #guard_msgs (pass all) in example : True := trivial
abbrev s_l_take : Stmt := top 78
set_option Elab.async true in
theorem sc_l_take : FnScope ["_law_box_here", "_law_many", "_law_found", "_law_once", "_law_twice"] ["_law_box_here", "_law_many"] (defScope s_l_take) := ⟨rfl, rfl, rfl, by decide +kernel, rfl, by decide +kernel, by decide +kernel⟩
  in #guard_msgs (pass all) in example : True := trivial
abbrev s_l_names : Stmt := top 79
set_option Elab.async true in
theorem sc_l_names : FnScope ["_law_box_here", "_law_many", "_law_letters", "_law_found", "_law_some", "_law_first", "_law_step", "_law_stem", "_law_tail", "_law_k", "_law_one", "_law_other", "_law_name_here"] ["_law_box_here", "_law_many"] (defScope s_l_names) := ⟨rfl, rfl, rfl, by decide +kernel, rfl, by decide +kernel, by decide +kernel⟩
  in #guard_msgs (pass all) in example : True := trivial
abbrev s_l_low : Stmt := top 80
set_option Elab.async true in
theorem sc_l_low : FnScope ["_law_top", "_law_bottom", "_law_one", "_law_other"] ["_law_top", "_law_bottom"] (defScope s_l_low) := ⟨rfl, rfl, rfl, by decide +kernel, rfl, by decide +kernel, by decide +kernel⟩
  in #guard_msgs (pass all) in example : True := trivial
abbrev s_l_plus : Stmt := top 81
set_option Elab.async true in
theorem sc_l_plus : FnScope ["_law_one", "_law_other"] ["_law_one", "_law_other"] (defScope s_l_plus) := ⟨rfl, rfl, rfl, by decide +kernel, rfl, by decide +kernel, by decide +kernel⟩
  in #guard_msgs (pass all) in example : True := trivial
abbrev s_l_by : Stmt := top 82
set_option Elab.async true in
theorem sc_l_by : FnScope ["_law_one", "_law_other"] ["_law_one", "_law_other"] (defScope s_l_by) := ⟨rfl, rfl, rfl, by decide +kernel, rfl, by decide +kernel, by decide +kernel⟩
  in #guard_msgs (pass all) in example : True := trivial
abbrev s_l_share : Stmt := top 83
set_option Elab.async true in
theorem sc_l_share : FnScope ["_law_box_here", "_law_bottom"] ["_law_box_here"] (defScope s_l_share) := ⟨rfl, rfl, rfl, by decide +kernel, rfl, by decide +kernel, by decide +kernel⟩
  in #guard_msgs (pass all) in example : True := trivial
abbrev s_l_row : Stmt := top 84
set_option Elab.async true in
theorem sc_l_row : FnScope ["_law_box_here", "_law_kettles", "_law_moulds", "_law_names_here", "_law_found", "_law_others", "_law_name_here", "_law_bottom", "_law_mark", "_law_room"] ["_law_box_here", "_law_kettles", "_law_moulds"] (defScope s_l_row) := ⟨rfl, rfl, rfl, by decide +kernel, rfl, by decide +kernel, by decide +kernel⟩
  in #guard_msgs (pass all) in example : True := trivial
abbrev s_l_less : Stmt := top 85
set_option Elab.async true in
theorem sc_l_less : FnScope ["_law_one", "_law_other"] ["_law_one", "_law_other"] (defScope s_l_less) := ⟨rfl, rfl, rfl, by decide +kernel, rfl, by decide +kernel, by decide +kernel⟩
  in #guard_msgs (pass all) in example : True := trivial
abbrev s_l_begun : Stmt := top 86
set_option Elab.async true in
theorem sc_l_begun : FnScope ["_law_box_here", "_law_many", "_law_rows", "_law_others", "_law_state", "_law_name_here", "_law_room", "_law_fire", "_law_mark"] ["_law_box_here", "_law_many"] (defScope s_l_begun) := ⟨rfl, rfl, rfl, by decide +kernel, rfl, by decide +kernel, by decide +kernel⟩
  in #guard_msgs (pass all) in example : True := trivial
abbrev s_l_ask : Stmt := top 87
set_option Elab.async true in
theorem sc_l_ask : FnScope ["_law_kettles", "_law_deed_here", "_law_word", "_law_one"] ["_law_kettles", "_law_deed_here"] (defScope s_l_ask) := ⟨rfl, rfl, rfl, by decide +kernel, rfl, by decide +kernel, by decide +kernel⟩
  in #guard_msgs (pass all) in example : True := trivial
abbrev s_l_told : Stmt := top 88
set_option Elab.async true in
theorem sc_l_told : FnScope ["_law_kettles", "_law_deed_here", "_law_caught", "_law_found", "error", "_law_kinds", "_law_odd", "_law_words"] ["_law_kettles", "_law_deed_here"] (defScope s_l_told) := ⟨rfl, rfl, rfl, by decide +kernel, rfl, by decide +kernel, by decide +kernel⟩
  in #guard_msgs (pass all) in example : True := trivial
abbrev s_l_amount : Stmt := top 89
set_option Elab.async true in
theorem sc_l_amount : FnScope ["_law_box_here", "_law_most", "_law_way", "_law_bottom"] ["_law_box_here", "_law_most"] (defScope s_l_amount) := ⟨rfl, rfl, rfl, by decide +kernel, rfl, by decide +kernel, by decide +kernel⟩
  in #guard_msgs (pass all) in example : True := trivial
abbrev s_l_juice : Stmt := top 90
set_option Elab.async true in
theorem sc_l_juice : FnScope ["_law_box_here", "_law_row_here", "_law_most", "_law_sugar", "_law_water", "_law_just"] ["_law_box_here", "_law_row_here"] (defScope s_l_juice) := ⟨rfl, rfl, rfl, by decide +kernel, rfl, by decide +kernel, by decide +kernel⟩
  in #guard_msgs (pass all) in example : True := trivial
abbrev s_l_some_share : Stmt := top 91
set_option Elab.async true in
theorem sc_l_some_share : FnScope ["_law_box_here", "_law_share_here", "_law_odd"] ["_law_box_here"] (defScope s_l_some_share) := ⟨rfl, rfl, rfl, by decide +kernel, rfl, by decide +kernel, by decide +kernel⟩
  in #guard_msgs (pass all) in example : True := trivial
abbrev s_l_name : Stmt := top 92
set_option Elab.async true in
theorem sc_l_name : FnScope ["_law_box_here", "_law_state", "_law_names_here"] ["_law_box_here", "_law_state"] (defScope s_l_name) := ⟨rfl, rfl, rfl, by decide +kernel, rfl, by decide +kernel, by decide +kernel⟩
  in #guard_msgs (pass all) in example : True := trivial
abbrev s_l_deed : Stmt := top 93
set_option Elab.async true in
theorem sc_l_deed : FnScope ["_law_box_here", "_law_state", "_law_some", "_law_word", "_law_kettle", "_law_other", "_law_given"] ["_law_box_here", "_law_state", "_law_some"] (defScope s_l_deed) := ⟨rfl, rfl, rfl, by decide +kernel, rfl, by decide +kernel, by decide +kernel⟩
  in #guard_msgs (pass all) in example : True := trivial
abbrev s_l_more : Stmt := top 94
set_option Elab.async true in
theorem sc_l_more : FnScope ["_law_whole", "_law_juice_here"] ["_law_whole", "_law_juice_here"] (defScope s_l_more) := ⟨rfl, rfl, rfl, by decide +kernel, rfl, by decide +kernel, by decide +kernel⟩
  in #guard_msgs (pass all) in example : True := trivial
abbrev s_l_sum_right : Stmt := top 95
set_option Elab.async true in
theorem sc_l_sum_right : FnScope ["_law_kettles", "_law_state", "_law_came", "_law_out", "_law_there", "_law_gone", "_law_name_here", "_law_row_here", "_law_juice_here"] ["_law_kettles", "_law_state", "_law_came", "_law_out"] (defScope s_l_sum_right) := ⟨rfl, rfl, rfl, by decide +kernel, rfl, by decide +kernel, by decide +kernel⟩
  in #guard_msgs (pass all) in example : True := trivial
abbrev s_p_law : Stmt := top 96
set_option Elab.async true in
theorem sc_p_law : FnScope ["_law_script", "_law_some", "_law_k", "_law_box_here", "_law_kettles", "_law_state", "_law_came", "_law_out", "_law_turn", "_law_deed_here", "_law_gone", "_law_told_here"] ["_law_script"] (defScope s_p_law) := ⟨rfl, rfl, rfl, by decide +kernel, rfl, by decide +kernel, by decide +kernel⟩
  in #guard_msgs (pass all) in example : True := trivial
abbrev s_init_NoKettle : Stmt := (clsBody (top 9)).getD 0 (.Pass ⟨0, 0, 0, 0⟩)
set_option Elab.async true in
theorem sc_init_NoKettle : FnScope ["self", "what"] ["self", "what"] (defScope s_init_NoKettle) := ⟨rfl, rfl, rfl, by decide +kernel, rfl, by decide +kernel, by decide +kernel⟩
  in #guard_msgs (pass all) in example : True := trivial
abbrev s_init_NoRoom : Stmt := (clsBody (top 12)).getD 0 (.Pass ⟨0, 0, 0, 0⟩)
set_option Elab.async true in
theorem sc_init_NoRoom : FnScope ["self", "what"] ["self", "what"] (defScope s_init_NoRoom) := ⟨rfl, rfl, rfl, by decide +kernel, rfl, by decide +kernel, by decide +kernel⟩
  in #guard_msgs (pass all) in example : True := trivial
abbrev s_init_NoShare : Stmt := (clsBody (top 11)).getD 0 (.Pass ⟨0, 0, 0, 0⟩)
set_option Elab.async true in
theorem sc_init_NoShare : FnScope ["self", "what"] ["self", "what"] (defScope s_init_NoShare) := ⟨rfl, rfl, rfl, by decide +kernel, rfl, by decide +kernel, by decide +kernel⟩
  in #guard_msgs (pass all) in example : True := trivial
abbrev s_init_Empty : Stmt := (clsBody (top 16)).getD 0 (.Pass ⟨0, 0, 0, 0⟩)
set_option Elab.async true in
theorem sc_init_Empty : FnScope ["self", "what"] ["self", "what"] (defScope s_init_Empty) := ⟨rfl, rfl, rfl, by decide +kernel, rfl, by decide +kernel, by decide +kernel⟩
  in #guard_msgs (pass all) in example : True := trivial
abbrev s_init_Same : Stmt := (clsBody (top 17)).getD 0 (.Pass ⟨0, 0, 0, 0⟩)
set_option Elab.async true in
theorem sc_init_Same : FnScope ["self", "what"] ["self", "what"] (defScope s_init_Same) := ⟨rfl, rfl, rfl, by decide +kernel, rfl, by decide +kernel, by decide +kernel⟩
  in #guard_msgs (pass all) in example : True := trivial
abbrev s_init_Stopped : Stmt := (clsBody (top 18)).getD 0 (.Pass ⟨0, 0, 0, 0⟩)
set_option Elab.async true in
theorem sc_init_Stopped : FnScope ["self", "what"] ["self", "what"] (defScope s_init_Stopped) := ⟨rfl, rfl, rfl, by decide +kernel, rfl, by decide +kernel, by decide +kernel⟩
  in #guard_msgs (pass all) in example : True := trivial
abbrev s_init_InWork : Stmt := (clsBody (top 19)).getD 0 (.Pass ⟨0, 0, 0, 0⟩)
set_option Elab.async true in
theorem sc_init_InWork : FnScope ["self", "what"] ["self", "what"] (defScope s_init_InWork) := ⟨rfl, rfl, rfl, by decide +kernel, rfl, by decide +kernel, by decide +kernel⟩
  in #guard_msgs (pass all) in example : True := trivial
set_option genInjectivity false in
set_option genSizeOf false in
set_option genCtorIdx false in
structure All (K : PySem.W.Frag) (mg : Str → Option Value) where
  f_Kettles__named : Addr
  fd_Kettles__named : FuncData
  F_Kettles__named : Fun K "_named" "Kettles._named" s_Kettles__named f_Kettles__named fd_Kettles__named
  b_Kettles__named : Binds K fd_Kettles__named ["self", "name"] []
  f_Kettles_boiled_off : Addr
  fd_Kettles_boiled_off : FuncData
  F_Kettles_boiled_off : Fun K "boiled_off" "Kettles.boiled_off" s_Kettles_boiled_off f_Kettles_boiled_off fd_Kettles_boiled_off
  b_Kettles_boiled_off : Binds K fd_Kettles_boiled_off ["self"] []
  f_Kettles_juice_of : Addr
  fd_Kettles_juice_of : FuncData
  F_Kettles_juice_of : Fun K "juice_of" "Kettles.juice_of" s_Kettles_juice_of f_Kettles_juice_of fd_Kettles_juice_of
  b_Kettles_juice_of : Binds K fd_Kettles_juice_of ["self", "kettle"] []
  f_Kettles_start : Addr
  fd_Kettles_start : FuncData
  F_Kettles_start : Fun K "start" "Kettles.start" s_Kettles_start f_Kettles_start fd_Kettles_start
  b_Kettles_start : Binds K fd_Kettles_start ["self", "kettle"] []
  f_Kettles_stop : Addr
  fd_Kettles_stop : FuncData
  F_Kettles_stop : Fun K "stop" "Kettles.stop" s_Kettles_stop f_Kettles_stop fd_Kettles_stop
  b_Kettles_stop : Binds K fd_Kettles_stop ["self", "kettle"] []
  f_Kettles_skim : Addr
  fd_Kettles_skim : FuncData
  F_Kettles_skim : Fun K "skim" "Kettles.skim" s_Kettles_skim f_Kettles_skim fd_Kettles_skim
  b_Kettles_skim : Binds K fd_Kettles_skim ["self", "kettle", "share", "given", "other"] []
  f_Kettles_ladle : Addr
  fd_Kettles_ladle : FuncData
  F_Kettles_ladle : Fun K "ladle" "Kettles.ladle" s_Kettles_ladle f_Kettles_ladle fd_Kettles_ladle
  b_Kettles_ladle : Binds K fd_Kettles_ladle ["self", "one", "other", "share"] []
  f_Kettles_take_out : Addr
  fd_Kettles_take_out : FuncData
  F_Kettles_take_out : Fun K "take_out" "Kettles.take_out" s_Kettles_take_out f_Kettles_take_out fd_Kettles_take_out
  b_Kettles_take_out : Binds K fd_Kettles_take_out ["self", "kettle", "part"] []
  f_Kettles_dip : Addr
  fd_Kettles_dip : FuncData
  F_Kettles_dip : Fun K "dip" "Kettles.dip" s_Kettles_dip f_Kettles_dip fd_Kettles_dip
  b_Kettles_dip : Binds K fd_Kettles_dip ["self", "kettle", "share"] []
  f_Kettles_pour : Addr
  fd_Kettles_pour : FuncData
  F_Kettles_pour : Fun K "pour" "Kettles.pour" s_Kettles_pour f_Kettles_pour fd_Kettles_pour
  b_Kettles_pour : Binds K fd_Kettles_pour ["self", "kettle", "juice"] []
  f_Kettles_boil_on : Addr
  fd_Kettles_boil_on : FuncData
  F_Kettles_boil_on : Fun K "boil_on" "Kettles.boil_on" s_Kettles_boil_on f_Kettles_boil_on fd_Kettles_boil_on
  b_Kettles_boil_on : Binds K fd_Kettles_boil_on ["self", "hours"] []
  f_Kettles_init : Addr
  fd_Kettles_init : FuncData
  F_Kettles_init : Fun K "__init__" "Kettles.__init__" s_Kettles_init f_Kettles_init fd_Kettles_init
  b_Kettles_init : Binds K fd_Kettles_init ["self", "row"] []
  f_Kettle_boil : Addr
  fd_Kettle_boil : FuncData
  F_Kettle_boil : Fun K "boil" "Kettle.boil" s_Kettle_boil f_Kettle_boil fd_Kettle_boil
  b_Kettle_boil : Binds K fd_Kettle_boil ["self", "hours"] []
  f_Kettle_init : Addr
  fd_Kettle_init : FuncData
  F_Kettle_init : Fun K "__init__" "Kettle.__init__" s_Kettle_init f_Kettle_init fd_Kettle_init
  b_Kettle_init : Binds K fd_Kettle_init ["self", "room", "fire", "mark"] []
  f_SameRow_init : Addr
  fd_SameRow_init : FuncData
  F_SameRow_init : Fun K "__init__" "SameRow.__init__" s_SameRow_init f_SameRow_init fd_SameRow_init
  b_SameRow_init : Binds K fd_SameRow_init ["self", "row"] []
  f_Row_init : Addr
  fd_Row_init : FuncData
  F_Row_init : Fun K "__init__" "Row.__init__" s_Row_init f_Row_init fd_Row_init
  b_Row_init : Binds K fd_Row_init ["self", "kettles", "moulds"] []
  f_p_is_number : Addr
  fd_p_is_number : FuncData
  d_p_is_number : Def K mg "is_number" s_p_is_number f_p_is_number fd_p_is_number ["thing"]
  f_p_is_number_within : Addr
  fd_p_is_number_within : FuncData
  d_p_is_number_within : Def K mg "is_number_within" s_p_is_number_within f_p_is_number_within fd_p_is_number_within ["thing", "least", "most"]
  f_p_is_frac : Addr
  fd_p_is_frac : FuncData
  d_p_is_frac : Def K mg "is_frac" s_p_is_frac f_p_is_frac fd_p_is_frac ["thing"]
  f_p_frac_of : Addr
  fd_p_frac_of : FuncData
  d_p_frac_of : Def K mg "frac_of" s_p_frac_of f_p_frac_of fd_p_frac_of ["top", "bottom"]
  f_p_sum_of : Addr
  fd_p_sum_of : FuncData
  d_p_sum_of : Def K mg "sum_of" s_p_sum_of f_p_sum_of fd_p_sum_of ["one", "other"]
  f_p_difference : Addr
  fd_p_difference : FuncData
  d_p_difference : Def K mg "difference" s_p_difference f_p_difference fd_p_difference ["one", "other"]
  f_p_product : Addr
  fd_p_product : FuncData
  d_p_product : Def K mg "product" s_p_product f_p_product fd_p_product ["one", "other"]
  f_p_is_lesser : Addr
  fd_p_is_lesser : FuncData
  d_p_is_lesser : Def K mg "is_lesser" s_p_is_lesser f_p_is_lesser fd_p_is_lesser ["one", "other"]
  f_p_mixed : Addr
  fd_p_mixed : FuncData
  d_p_mixed : Def K mg "mixed" s_p_mixed f_p_mixed fd_p_mixed ["one", "other"]
  f_p_share_of : Addr
  fd_p_share_of : FuncData
  d_p_share_of : Def K mg "share_of" s_p_share_of f_p_share_of fd_p_share_of ["juice", "share"]
  f_p_rest_of : Addr
  fd_p_rest_of : FuncData
  d_p_rest_of : Def K mg "rest_of" s_p_rest_of f_p_rest_of fd_p_rest_of ["juice", "share"]
  f_p_volume_of : Addr
  fd_p_volume_of : FuncData
  d_p_volume_of : Def K mg "volume_of" s_p_volume_of f_p_volume_of fd_p_volume_of ["juice"]
  f_p_water_at : Addr
  fd_p_water_at : FuncData
  d_p_water_at : Def K mg "water_at" s_p_water_at f_p_water_at fd_p_water_at ["sugar", "mark"]
  f_p_boiled_down : Addr
  fd_p_boiled_down : FuncData
  d_p_boiled_down : Def K mg "boiled_down" s_p_boiled_down f_p_boiled_down fd_p_boiled_down ["juice", "fire", "mark", "hours"]
  f_p_is_name : Addr
  fd_p_is_name : FuncData
  d_p_is_name : Def K mg "is_name" s_p_is_name f_p_is_name fd_p_is_name ["thing"]
  f_p_are_unlike : Addr
  fd_p_are_unlike : FuncData
  d_p_are_unlike : Def K mg "are_unlike" s_p_are_unlike f_p_are_unlike fd_p_are_unlike ["names"]
  f_p_is_kettle : Addr
  fd_p_is_kettle : FuncData
  d_p_is_kettle : Def K mg "is_kettle" s_p_is_kettle f_p_is_kettle fd_p_is_kettle ["thing"]
  f_p_is_mould : Addr
  fd_p_is_mould : FuncData
  d_p_is_mould : Def K mg "is_mould" s_p_is_mould f_p_is_mould fd_p_is_mould ["thing"]
  f_p__can_be_kettles : Addr
  fd_p__can_be_kettles : FuncData
  d_p__can_be_kettles : Def K mg "_can_be_kettles" s_p__can_be_kettles f_p__can_be_kettles fd_p__can_be_kettles ["things"]
  f_p__can_be_moulds : Addr
  fd_p__can_be_moulds : FuncData
  d_p__can_be_moulds : Def K mg "_can_be_moulds" s_p__can_be_moulds f_p__can_be_moulds fd_p__can_be_moulds ["things", "kettles"]
  f_p__are_name_and_room : Addr
  fd_p__are_name_and_room : FuncData
  d_p__are_name_and_room : Def K mg "_are_name_and_room" s_p__are_name_and_room f_p__are_name_and_room fd_p__are_name_and_room ["name", "room"]
  f_p__is_mark : Addr
  fd_p__is_mark : FuncData
  d_p__is_mark : Def K mg "_is_mark" s_p__is_mark f_p__is_mark fd_p__is_mark ["thing"]
  f_p__is_drip : Addr
  fd_p__is_drip : FuncData
  d_p__is_drip : Def K mg "_is_drip" s_p__is_drip f_p__is_drip fd_p__is_drip ["thing"]
  f_p_need_share : Addr
  fd_p_need_share : FuncData
  d_p_need_share : Def K mg "need_share" s_p_need_share f_p_need_share fd_p_need_share ["share"]
  f_p_need_some : Addr
  fd_p_need_some : FuncData
  d_p_need_some : Def K mg "need_some" s_p_need_some f_p_need_some fd_p_need_some ["name", "juice"]
  f_p_poured_into : Addr
  fd_p_poured_into : FuncData
  d_p_poured_into : Def K mg "poured_into" s_p_poured_into f_p_poured_into fd_p_poured_into ["name", "room", "juice", "more"]
  f_l_cell_at : Addr
  fd_l_cell_at : FuncData
  d_l_cell_at : Def K mg "_law_cell_at" s_l_cell_at f_l_cell_at fd_l_cell_at ["_law_script", "_law_k"]
  f_l_box : Addr
  fd_l_box : FuncData
  d_l_box : Def K mg "_law_box" s_l_box f_l_box fd_l_box ["_law_script", "_law_k"]
  f_l_take : Addr
  fd_l_take : FuncData
  d_l_take : Def K mg "_law_take" s_l_take f_l_take fd_l_take ["_law_box_here", "_law_many"]
  f_l_names : Addr
  fd_l_names : FuncData
  d_l_names : Def K mg "_law_names" s_l_names f_l_names fd_l_names ["_law_box_here", "_law_many"]
  f_l_low : Addr
  fd_l_low : FuncData
  d_l_low : Def K mg "_law_low" s_l_low f_l_low fd_l_low ["_law_top", "_law_bottom"]
  f_l_plus : Addr
  fd_l_plus : FuncData
  d_l_plus : Def K mg "_law_plus" s_l_plus f_l_plus fd_l_plus ["_law_one", "_law_other"]
  f_l_by : Addr
  fd_l_by : FuncData
  d_l_by : Def K mg "_law_by" s_l_by f_l_by fd_l_by ["_law_one", "_law_other"]
  f_l_share : Addr
  fd_l_share : FuncData
  d_l_share : Def K mg "_law_share" s_l_share f_l_share fd_l_share ["_law_box_here"]
  f_l_row : Addr
  fd_l_row : FuncData
  d_l_row : Def K mg "_law_row" s_l_row f_l_row fd_l_row ["_law_box_here", "_law_kettles", "_law_moulds"]
  f_l_less : Addr
  fd_l_less : FuncData
  d_l_less : Def K mg "_law_less" s_l_less f_l_less fd_l_less ["_law_one", "_law_other"]
  f_l_begun : Addr
  fd_l_begun : FuncData
  d_l_begun : Def K mg "_law_begun" s_l_begun f_l_begun fd_l_begun ["_law_box_here", "_law_many"]
  f_l_ask : Addr
  fd_l_ask : FuncData
  d_l_ask : Def K mg "_law_ask" s_l_ask f_l_ask fd_l_ask ["_law_kettles", "_law_deed_here"]
  f_l_told : Addr
  fd_l_told : FuncData
  d_l_told : Def K mg "_law_told" s_l_told f_l_told fd_l_told ["_law_kettles", "_law_deed_here"]
  f_l_amount : Addr
  fd_l_amount : FuncData
  d_l_amount : Def K mg "_law_amount" s_l_amount f_l_amount fd_l_amount ["_law_box_here", "_law_most"]
  f_l_juice : Addr
  fd_l_juice : FuncData
  d_l_juice : Def K mg "_law_juice" s_l_juice f_l_juice fd_l_juice ["_law_box_here", "_law_row_here"]
  f_l_some_share : Addr
  fd_l_some_share : FuncData
  d_l_some_share : Def K mg "_law_some_share" s_l_some_share f_l_some_share fd_l_some_share ["_law_box_here"]
  f_l_name : Addr
  fd_l_name : FuncData
  d_l_name : Def K mg "_law_name" s_l_name f_l_name fd_l_name ["_law_box_here", "_law_state"]
  f_l_deed : Addr
  fd_l_deed : FuncData
  d_l_deed : Def K mg "_law_deed" s_l_deed f_l_deed fd_l_deed ["_law_box_here", "_law_state", "_law_some"]
  f_l_more : Addr
  fd_l_more : FuncData
  d_l_more : Def K mg "_law_more" s_l_more f_l_more fd_l_more ["_law_whole", "_law_juice_here"]
  f_l_sum_right : Addr
  fd_l_sum_right : FuncData
  d_l_sum_right : Def K mg "_law_sum_right" s_l_sum_right f_l_sum_right fd_l_sum_right ["_law_kettles", "_law_state", "_law_came", "_law_out"]
  f_p_law : Addr
  fd_p_law : FuncData
  d_p_law : Def K mg "law" s_p_law f_p_law fd_p_law ["_law_script"]
  b_ValueError : mg "ValueError" = none
  b_abs : mg "abs" = none
  b_all : mg "all" = none
  b_bool : mg "bool" = none
  b_dict : mg "dict" = none
  b_divmod : mg "divmod" = none
  b_int : mg "int" = none
  b_isinstance : mg "isinstance" = none
  b_len : mg "len" = none
  b_list : mg "list" = none
  b_max : mg "max" = none
  b_min : mg "min" = none
  b_range : mg "range" = none
  b_set : mg "set" = none
  b_str : mg "str" = none
  b_tuple : mg "tuple" = none
  m_gcd : mg "gcd" = some (.builtin "math.gcd")
  t_MOST_LETTERS : Tok
  c_MOST_LETTERS : mg "MOST_LETTERS" = some (.int 8 t_MOST_LETTERS)
  t_MOST_KETTLES : Tok
  c_MOST_KETTLES : mg "MOST_KETTLES" = some (.int 8 t_MOST_KETTLES)
  t_MOST_MOULDS : Tok
  c_MOST_MOULDS : mg "MOST_MOULDS" = some (.int 40 t_MOST_MOULDS)
  t_MOST_ROOM : Tok
  c_MOST_ROOM : mg "MOST_ROOM" = some (.int 1000000 t_MOST_ROOM)
  t_MOST_FIRE : Tok
  c_MOST_FIRE : mg "MOST_FIRE" = some (.int 10000 t_MOST_FIRE)
  t_MOST_MARK_BOTTOM : Tok
  c_MOST_MARK_BOTTOM : mg "MOST_MARK_BOTTOM" = some (.int 60 t_MOST_MARK_BOTTOM)
  t_MOST_DRIP_BOTTOM : Tok
  c_MOST_DRIP_BOTTOM : mg "MOST_DRIP_BOTTOM" = some (.int 12 t_MOST_DRIP_BOTTOM)
  t_MOST_BOTTOM : Tok
  c_MOST_BOTTOM : mg "MOST_BOTTOM" = some (.int 12 t_MOST_BOTTOM)
  C_BoilError : Addr
  g_BoilError : mg "BoilError" = some (.ref C_BoilError)
  C_NoKettle : Addr
  g_NoKettle : mg "NoKettle" = some (.ref C_NoKettle)
  C_NoRoom : Addr
  g_NoRoom : mg "NoRoom" = some (.ref C_NoRoom)
  C_NoShare : Addr
  g_NoShare : mg "NoShare" = some (.ref C_NoShare)
  C_Empty : Addr
  g_Empty : mg "Empty" = some (.ref C_Empty)
  C_Same : Addr
  g_Same : mg "Same" = some (.ref C_Same)
  C_Stopped : Addr
  g_Stopped : mg "Stopped" = some (.ref C_Stopped)
  C_InWork : Addr
  g_InWork : mg "InWork" = some (.ref C_InWork)
  C_BadDeed : Addr
  g_BadDeed : mg "BadDeed" = some (.ref C_BadDeed)
  C_BadFrac : Addr
  g_BadFrac : mg "BadFrac" = some (.ref C_BadFrac)
  C_BadKettles : Addr
  g_BadKettles : mg "BadKettles" = some (.ref C_BadKettles)
  C_BadMoulds : Addr
  g_BadMoulds : mg "BadMoulds" = some (.ref C_BadMoulds)
  C_BadRow : Addr
  g_BadRow : mg "BadRow" = some (.ref C_BadRow)
  C_Cured : Addr
  g_Cured : mg "Cured" = some (.ref C_Cured)
  C_NoHour : Addr
  g_NoHour : mg "NoHour" = some (.ref C_NoHour)
  C_NoMould : Addr
  g_NoMould : mg "NoMould" = some (.ref C_NoMould)
  C_NoSteady : Addr
  g_NoSteady : mg "NoSteady" = some (.ref C_NoSteady)
  C_NoTelling : Addr
  g_NoTelling : mg "NoTelling" = some (.ref C_NoTelling)
  C_NotCured : Addr
  g_NotCured : mg "NotCured" = some (.ref C_NotCured)
  C_NotReady : Addr
  g_NotReady : mg "NotReady" = some (.ref C_NotReady)
  C_TooStrong : Addr
  g_TooStrong : mg "TooStrong" = some (.ref C_TooStrong)
  O_NoKettle : OexC K C_NoKettle
  fI_NoKettle : Addr
  fdI_NoKettle : FuncData
  i_NoKettle : PySem.W.findIn K (.ref C_NoKettle) "__init__" = some (some (.ref fI_NoKettle))
  tI_NoKettle : PySem.W.typeIn K (.ref fI_NoKettle) = some (.type "function")
  FI_NoKettle : Fun K "__init__" "NoKettle.__init__" s_init_NoKettle fI_NoKettle fdI_NoKettle
  bI_NoKettle : Binds K fdI_NoKettle ["self", "what"] []
  E_NoKettle : ExcFacts K C_NoKettle
  N_NoKettle : NmC K C_NoKettle "NoKettle"
  O_NoRoom : OexC K C_NoRoom
  fI_NoRoom : Addr
  fdI_NoRoom : FuncData
  i_NoRoom : PySem.W.findIn K (.ref C_NoRoom) "__init__" = some (some (.ref fI_NoRoom))
  tI_NoRoom : PySem.W.typeIn K (.ref fI_NoRoom) = some (.type "function")
  FI_NoRoom : Fun K "__init__" "NoRoom.__init__" s_init_NoRoom fI_NoRoom fdI_NoRoom
  bI_NoRoom : Binds K fdI_NoRoom ["self", "what"] []
  E_NoRoom : ExcFacts K C_NoRoom
  N_NoRoom : NmC K C_NoRoom "NoRoom"
  O_NoShare : OexC K C_NoShare
  fI_NoShare : Addr
  fdI_NoShare : FuncData
  i_NoShare : PySem.W.findIn K (.ref C_NoShare) "__init__" = some (some (.ref fI_NoShare))
  tI_NoShare : PySem.W.typeIn K (.ref fI_NoShare) = some (.type "function")
  FI_NoShare : Fun K "__init__" "NoShare.__init__" s_init_NoShare fI_NoShare fdI_NoShare
  bI_NoShare : Binds K fdI_NoShare ["self", "what"] []
  E_NoShare : ExcFacts K C_NoShare
  N_NoShare : NmC K C_NoShare "NoShare"
  O_Empty : OexC K C_Empty
  fI_Empty : Addr
  fdI_Empty : FuncData
  i_Empty : PySem.W.findIn K (.ref C_Empty) "__init__" = some (some (.ref fI_Empty))
  tI_Empty : PySem.W.typeIn K (.ref fI_Empty) = some (.type "function")
  FI_Empty : Fun K "__init__" "Empty.__init__" s_init_Empty fI_Empty fdI_Empty
  bI_Empty : Binds K fdI_Empty ["self", "what"] []
  E_Empty : ExcFacts K C_Empty
  N_Empty : NmC K C_Empty "Empty"
  O_Same : OexC K C_Same
  fI_Same : Addr
  fdI_Same : FuncData
  i_Same : PySem.W.findIn K (.ref C_Same) "__init__" = some (some (.ref fI_Same))
  tI_Same : PySem.W.typeIn K (.ref fI_Same) = some (.type "function")
  FI_Same : Fun K "__init__" "Same.__init__" s_init_Same fI_Same fdI_Same
  bI_Same : Binds K fdI_Same ["self", "what"] []
  E_Same : ExcFacts K C_Same
  N_Same : NmC K C_Same "Same"
  O_Stopped : OexC K C_Stopped
  fI_Stopped : Addr
  fdI_Stopped : FuncData
  i_Stopped : PySem.W.findIn K (.ref C_Stopped) "__init__" = some (some (.ref fI_Stopped))
  tI_Stopped : PySem.W.typeIn K (.ref fI_Stopped) = some (.type "function")
  FI_Stopped : Fun K "__init__" "Stopped.__init__" s_init_Stopped fI_Stopped fdI_Stopped
  bI_Stopped : Binds K fdI_Stopped ["self", "what"] []
  E_Stopped : ExcFacts K C_Stopped
  N_Stopped : NmC K C_Stopped "Stopped"
  O_InWork : OexC K C_InWork
  fI_InWork : Addr
  fdI_InWork : FuncData
  i_InWork : PySem.W.findIn K (.ref C_InWork) "__init__" = some (some (.ref fI_InWork))
  tI_InWork : PySem.W.typeIn K (.ref fI_InWork) = some (.type "function")
  FI_InWork : Fun K "__init__" "InWork.__init__" s_init_InWork fI_InWork fdI_InWork
  bI_InWork : Binds K fdI_InWork ["self", "what"] []
  E_InWork : ExcFacts K C_InWork
  N_InWork : NmC K C_InWork "InWork"
  te_NoKettle : PySem.W.exmOne K (.ref C_NoKettle) (.ref C_BoilError) = some true
  te_NoRoom : PySem.W.exmOne K (.ref C_NoRoom) (.ref C_BoilError) = some true
  te_NoShare : PySem.W.exmOne K (.ref C_NoShare) (.ref C_BoilError) = some true
  te_Empty : PySem.W.exmOne K (.ref C_Empty) (.ref C_BoilError) = some true
  te_Same : PySem.W.exmOne K (.ref C_Same) (.ref C_BoilError) = some true
  te_Stopped : PySem.W.exmOne K (.ref C_Stopped) (.ref C_BoilError) = some true
  te_InWork : PySem.W.exmOne K (.ref C_InWork) (.ref C_BoilError) = some true
  kk_NoKettle_NoKettle : PySem.W.kitOne K (.ref C_NoKettle) (.ref C_NoKettle) = some true
  kk_NoKettle_NoRoom : PySem.W.kitOne K (.ref C_NoKettle) (.ref C_NoRoom) = some false
  kk_NoKettle_NoShare : PySem.W.kitOne K (.ref C_NoKettle) (.ref C_NoShare) = some false
  kk_NoKettle_Empty : PySem.W.kitOne K (.ref C_NoKettle) (.ref C_Empty) = some false
  kk_NoKettle_Same : PySem.W.kitOne K (.ref C_NoKettle) (.ref C_Same) = some false
  kk_NoKettle_Stopped : PySem.W.kitOne K (.ref C_NoKettle) (.ref C_Stopped) = some false
  kk_NoKettle_InWork : PySem.W.kitOne K (.ref C_NoKettle) (.ref C_InWork) = some false
  kk_NoKettle_BadDeed : PySem.W.kitOne K (.ref C_NoKettle) (.ref C_BadDeed) = some false
  kk_NoKettle_BadFrac : PySem.W.kitOne K (.ref C_NoKettle) (.ref C_BadFrac) = some false
  kk_NoKettle_BadKettles : PySem.W.kitOne K (.ref C_NoKettle) (.ref C_BadKettles) = some false
  kk_NoKettle_BadMoulds : PySem.W.kitOne K (.ref C_NoKettle) (.ref C_BadMoulds) = some false
  kk_NoKettle_BadRow : PySem.W.kitOne K (.ref C_NoKettle) (.ref C_BadRow) = some false
  kk_NoKettle_Cured : PySem.W.kitOne K (.ref C_NoKettle) (.ref C_Cured) = some false
  kk_NoKettle_NoHour : PySem.W.kitOne K (.ref C_NoKettle) (.ref C_NoHour) = some false
  kk_NoKettle_NoMould : PySem.W.kitOne K (.ref C_NoKettle) (.ref C_NoMould) = some false
  kk_NoKettle_NoSteady : PySem.W.kitOne K (.ref C_NoKettle) (.ref C_NoSteady) = some false
  kk_NoKettle_NoTelling : PySem.W.kitOne K (.ref C_NoKettle) (.ref C_NoTelling) = some false
  kk_NoKettle_NotCured : PySem.W.kitOne K (.ref C_NoKettle) (.ref C_NotCured) = some false
  kk_NoKettle_NotReady : PySem.W.kitOne K (.ref C_NoKettle) (.ref C_NotReady) = some false
  kk_NoKettle_TooStrong : PySem.W.kitOne K (.ref C_NoKettle) (.ref C_TooStrong) = some false
  kk_NoRoom_NoKettle : PySem.W.kitOne K (.ref C_NoRoom) (.ref C_NoKettle) = some false
  kk_NoRoom_NoRoom : PySem.W.kitOne K (.ref C_NoRoom) (.ref C_NoRoom) = some true
  kk_NoRoom_NoShare : PySem.W.kitOne K (.ref C_NoRoom) (.ref C_NoShare) = some false
  kk_NoRoom_Empty : PySem.W.kitOne K (.ref C_NoRoom) (.ref C_Empty) = some false
  kk_NoRoom_Same : PySem.W.kitOne K (.ref C_NoRoom) (.ref C_Same) = some false
  kk_NoRoom_Stopped : PySem.W.kitOne K (.ref C_NoRoom) (.ref C_Stopped) = some false
  kk_NoRoom_InWork : PySem.W.kitOne K (.ref C_NoRoom) (.ref C_InWork) = some false
  kk_NoRoom_BadDeed : PySem.W.kitOne K (.ref C_NoRoom) (.ref C_BadDeed) = some false
  kk_NoRoom_BadFrac : PySem.W.kitOne K (.ref C_NoRoom) (.ref C_BadFrac) = some false
  kk_NoRoom_BadKettles : PySem.W.kitOne K (.ref C_NoRoom) (.ref C_BadKettles) = some false
  kk_NoRoom_BadMoulds : PySem.W.kitOne K (.ref C_NoRoom) (.ref C_BadMoulds) = some false
  kk_NoRoom_BadRow : PySem.W.kitOne K (.ref C_NoRoom) (.ref C_BadRow) = some false
  kk_NoRoom_Cured : PySem.W.kitOne K (.ref C_NoRoom) (.ref C_Cured) = some false
  kk_NoRoom_NoHour : PySem.W.kitOne K (.ref C_NoRoom) (.ref C_NoHour) = some false
  kk_NoRoom_NoMould : PySem.W.kitOne K (.ref C_NoRoom) (.ref C_NoMould) = some false
  kk_NoRoom_NoSteady : PySem.W.kitOne K (.ref C_NoRoom) (.ref C_NoSteady) = some false
  kk_NoRoom_NoTelling : PySem.W.kitOne K (.ref C_NoRoom) (.ref C_NoTelling) = some false
  kk_NoRoom_NotCured : PySem.W.kitOne K (.ref C_NoRoom) (.ref C_NotCured) = some false
  kk_NoRoom_NotReady : PySem.W.kitOne K (.ref C_NoRoom) (.ref C_NotReady) = some false
  kk_NoRoom_TooStrong : PySem.W.kitOne K (.ref C_NoRoom) (.ref C_TooStrong) = some false
  kk_NoShare_NoKettle : PySem.W.kitOne K (.ref C_NoShare) (.ref C_NoKettle) = some false
  kk_NoShare_NoRoom : PySem.W.kitOne K (.ref C_NoShare) (.ref C_NoRoom) = some false
  kk_NoShare_NoShare : PySem.W.kitOne K (.ref C_NoShare) (.ref C_NoShare) = some true
  kk_NoShare_Empty : PySem.W.kitOne K (.ref C_NoShare) (.ref C_Empty) = some false
  kk_NoShare_Same : PySem.W.kitOne K (.ref C_NoShare) (.ref C_Same) = some false
  kk_NoShare_Stopped : PySem.W.kitOne K (.ref C_NoShare) (.ref C_Stopped) = some false
  kk_NoShare_InWork : PySem.W.kitOne K (.ref C_NoShare) (.ref C_InWork) = some false
  kk_NoShare_BadDeed : PySem.W.kitOne K (.ref C_NoShare) (.ref C_BadDeed) = some false
  kk_NoShare_BadFrac : PySem.W.kitOne K (.ref C_NoShare) (.ref C_BadFrac) = some false
  kk_NoShare_BadKettles : PySem.W.kitOne K (.ref C_NoShare) (.ref C_BadKettles) = some false
  kk_NoShare_BadMoulds : PySem.W.kitOne K (.ref C_NoShare) (.ref C_BadMoulds) = some false
  kk_NoShare_BadRow : PySem.W.kitOne K (.ref C_NoShare) (.ref C_BadRow) = some false
  kk_NoShare_Cured : PySem.W.kitOne K (.ref C_NoShare) (.ref C_Cured) = some false
  kk_NoShare_NoHour : PySem.W.kitOne K (.ref C_NoShare) (.ref C_NoHour) = some false
  kk_NoShare_NoMould : PySem.W.kitOne K (.ref C_NoShare) (.ref C_NoMould) = some false
  kk_NoShare_NoSteady : PySem.W.kitOne K (.ref C_NoShare) (.ref C_NoSteady) = some false
  kk_NoShare_NoTelling : PySem.W.kitOne K (.ref C_NoShare) (.ref C_NoTelling) = some false
  kk_NoShare_NotCured : PySem.W.kitOne K (.ref C_NoShare) (.ref C_NotCured) = some false
  kk_NoShare_NotReady : PySem.W.kitOne K (.ref C_NoShare) (.ref C_NotReady) = some false
  kk_NoShare_TooStrong : PySem.W.kitOne K (.ref C_NoShare) (.ref C_TooStrong) = some false
  kk_Empty_NoKettle : PySem.W.kitOne K (.ref C_Empty) (.ref C_NoKettle) = some false
  kk_Empty_NoRoom : PySem.W.kitOne K (.ref C_Empty) (.ref C_NoRoom) = some false
  kk_Empty_NoShare : PySem.W.kitOne K (.ref C_Empty) (.ref C_NoShare) = some false
  kk_Empty_Empty : PySem.W.kitOne K (.ref C_Empty) (.ref C_Empty) = some true
  kk_Empty_Same : PySem.W.kitOne K (.ref C_Empty) (.ref C_Same) = some false
  kk_Empty_Stopped : PySem.W.kitOne K (.ref C_Empty) (.ref C_Stopped) = some false
  kk_Empty_InWork : PySem.W.kitOne K (.ref C_Empty) (.ref C_InWork) = some false
  kk_Empty_BadDeed : PySem.W.kitOne K (.ref C_Empty) (.ref C_BadDeed) = some false
  kk_Empty_BadFrac : PySem.W.kitOne K (.ref C_Empty) (.ref C_BadFrac) = some false
  kk_Empty_BadKettles : PySem.W.kitOne K (.ref C_Empty) (.ref C_BadKettles) = some false
  kk_Empty_BadMoulds : PySem.W.kitOne K (.ref C_Empty) (.ref C_BadMoulds) = some false
  kk_Empty_BadRow : PySem.W.kitOne K (.ref C_Empty) (.ref C_BadRow) = some false
  kk_Empty_Cured : PySem.W.kitOne K (.ref C_Empty) (.ref C_Cured) = some false
  kk_Empty_NoHour : PySem.W.kitOne K (.ref C_Empty) (.ref C_NoHour) = some false
  kk_Empty_NoMould : PySem.W.kitOne K (.ref C_Empty) (.ref C_NoMould) = some false
  kk_Empty_NoSteady : PySem.W.kitOne K (.ref C_Empty) (.ref C_NoSteady) = some false
  kk_Empty_NoTelling : PySem.W.kitOne K (.ref C_Empty) (.ref C_NoTelling) = some false
  kk_Empty_NotCured : PySem.W.kitOne K (.ref C_Empty) (.ref C_NotCured) = some false
  kk_Empty_NotReady : PySem.W.kitOne K (.ref C_Empty) (.ref C_NotReady) = some false
  kk_Empty_TooStrong : PySem.W.kitOne K (.ref C_Empty) (.ref C_TooStrong) = some false
  kk_Same_NoKettle : PySem.W.kitOne K (.ref C_Same) (.ref C_NoKettle) = some false
  kk_Same_NoRoom : PySem.W.kitOne K (.ref C_Same) (.ref C_NoRoom) = some false
  kk_Same_NoShare : PySem.W.kitOne K (.ref C_Same) (.ref C_NoShare) = some false
  kk_Same_Empty : PySem.W.kitOne K (.ref C_Same) (.ref C_Empty) = some false
  kk_Same_Same : PySem.W.kitOne K (.ref C_Same) (.ref C_Same) = some true
  kk_Same_Stopped : PySem.W.kitOne K (.ref C_Same) (.ref C_Stopped) = some false
  kk_Same_InWork : PySem.W.kitOne K (.ref C_Same) (.ref C_InWork) = some false
  kk_Same_BadDeed : PySem.W.kitOne K (.ref C_Same) (.ref C_BadDeed) = some false
  kk_Same_BadFrac : PySem.W.kitOne K (.ref C_Same) (.ref C_BadFrac) = some false
  kk_Same_BadKettles : PySem.W.kitOne K (.ref C_Same) (.ref C_BadKettles) = some false
  kk_Same_BadMoulds : PySem.W.kitOne K (.ref C_Same) (.ref C_BadMoulds) = some false
  kk_Same_BadRow : PySem.W.kitOne K (.ref C_Same) (.ref C_BadRow) = some false
  kk_Same_Cured : PySem.W.kitOne K (.ref C_Same) (.ref C_Cured) = some false
  kk_Same_NoHour : PySem.W.kitOne K (.ref C_Same) (.ref C_NoHour) = some false
  kk_Same_NoMould : PySem.W.kitOne K (.ref C_Same) (.ref C_NoMould) = some false
  kk_Same_NoSteady : PySem.W.kitOne K (.ref C_Same) (.ref C_NoSteady) = some false
  kk_Same_NoTelling : PySem.W.kitOne K (.ref C_Same) (.ref C_NoTelling) = some false
  kk_Same_NotCured : PySem.W.kitOne K (.ref C_Same) (.ref C_NotCured) = some false
  kk_Same_NotReady : PySem.W.kitOne K (.ref C_Same) (.ref C_NotReady) = some false
  kk_Same_TooStrong : PySem.W.kitOne K (.ref C_Same) (.ref C_TooStrong) = some false
  kk_Stopped_NoKettle : PySem.W.kitOne K (.ref C_Stopped) (.ref C_NoKettle) = some false
  kk_Stopped_NoRoom : PySem.W.kitOne K (.ref C_Stopped) (.ref C_NoRoom) = some false
  kk_Stopped_NoShare : PySem.W.kitOne K (.ref C_Stopped) (.ref C_NoShare) = some false
  kk_Stopped_Empty : PySem.W.kitOne K (.ref C_Stopped) (.ref C_Empty) = some false
  kk_Stopped_Same : PySem.W.kitOne K (.ref C_Stopped) (.ref C_Same) = some false
  kk_Stopped_Stopped : PySem.W.kitOne K (.ref C_Stopped) (.ref C_Stopped) = some true
  kk_Stopped_InWork : PySem.W.kitOne K (.ref C_Stopped) (.ref C_InWork) = some false
  kk_Stopped_BadDeed : PySem.W.kitOne K (.ref C_Stopped) (.ref C_BadDeed) = some false
  kk_Stopped_BadFrac : PySem.W.kitOne K (.ref C_Stopped) (.ref C_BadFrac) = some false
  kk_Stopped_BadKettles : PySem.W.kitOne K (.ref C_Stopped) (.ref C_BadKettles) = some false
  kk_Stopped_BadMoulds : PySem.W.kitOne K (.ref C_Stopped) (.ref C_BadMoulds) = some false
  kk_Stopped_BadRow : PySem.W.kitOne K (.ref C_Stopped) (.ref C_BadRow) = some false
  kk_Stopped_Cured : PySem.W.kitOne K (.ref C_Stopped) (.ref C_Cured) = some false
  kk_Stopped_NoHour : PySem.W.kitOne K (.ref C_Stopped) (.ref C_NoHour) = some false
  kk_Stopped_NoMould : PySem.W.kitOne K (.ref C_Stopped) (.ref C_NoMould) = some false
  kk_Stopped_NoSteady : PySem.W.kitOne K (.ref C_Stopped) (.ref C_NoSteady) = some false
  kk_Stopped_NoTelling : PySem.W.kitOne K (.ref C_Stopped) (.ref C_NoTelling) = some false
  kk_Stopped_NotCured : PySem.W.kitOne K (.ref C_Stopped) (.ref C_NotCured) = some false
  kk_Stopped_NotReady : PySem.W.kitOne K (.ref C_Stopped) (.ref C_NotReady) = some false
  kk_Stopped_TooStrong : PySem.W.kitOne K (.ref C_Stopped) (.ref C_TooStrong) = some false
  kk_InWork_NoKettle : PySem.W.kitOne K (.ref C_InWork) (.ref C_NoKettle) = some false
  kk_InWork_NoRoom : PySem.W.kitOne K (.ref C_InWork) (.ref C_NoRoom) = some false
  kk_InWork_NoShare : PySem.W.kitOne K (.ref C_InWork) (.ref C_NoShare) = some false
  kk_InWork_Empty : PySem.W.kitOne K (.ref C_InWork) (.ref C_Empty) = some false
  kk_InWork_Same : PySem.W.kitOne K (.ref C_InWork) (.ref C_Same) = some false
  kk_InWork_Stopped : PySem.W.kitOne K (.ref C_InWork) (.ref C_Stopped) = some false
  kk_InWork_InWork : PySem.W.kitOne K (.ref C_InWork) (.ref C_InWork) = some true
  kk_InWork_BadDeed : PySem.W.kitOne K (.ref C_InWork) (.ref C_BadDeed) = some false
  kk_InWork_BadFrac : PySem.W.kitOne K (.ref C_InWork) (.ref C_BadFrac) = some false
  kk_InWork_BadKettles : PySem.W.kitOne K (.ref C_InWork) (.ref C_BadKettles) = some false
  kk_InWork_BadMoulds : PySem.W.kitOne K (.ref C_InWork) (.ref C_BadMoulds) = some false
  kk_InWork_BadRow : PySem.W.kitOne K (.ref C_InWork) (.ref C_BadRow) = some false
  kk_InWork_Cured : PySem.W.kitOne K (.ref C_InWork) (.ref C_Cured) = some false
  kk_InWork_NoHour : PySem.W.kitOne K (.ref C_InWork) (.ref C_NoHour) = some false
  kk_InWork_NoMould : PySem.W.kitOne K (.ref C_InWork) (.ref C_NoMould) = some false
  kk_InWork_NoSteady : PySem.W.kitOne K (.ref C_InWork) (.ref C_NoSteady) = some false
  kk_InWork_NoTelling : PySem.W.kitOne K (.ref C_InWork) (.ref C_NoTelling) = some false
  kk_InWork_NotCured : PySem.W.kitOne K (.ref C_InWork) (.ref C_NotCured) = some false
  kk_InWork_NotReady : PySem.W.kitOne K (.ref C_InWork) (.ref C_NotReady) = some false
  kk_InWork_TooStrong : PySem.W.kitOne K (.ref C_InWork) (.ref C_TooStrong) = some false
  kV_NoKettle : PySem.W.kitOne K (.ref C_NoKettle) (.type "ValueError") = some true
  kV_NoRoom : PySem.W.kitOne K (.ref C_NoRoom) (.type "ValueError") = some true
  kV_NoShare : PySem.W.kitOne K (.ref C_NoShare) (.type "ValueError") = some true
  kV_Empty : PySem.W.kitOne K (.ref C_Empty) (.type "ValueError") = some true
  kV_Same : PySem.W.kitOne K (.ref C_Same) (.type "ValueError") = some true
  kV_Stopped : PySem.W.kitOne K (.ref C_Stopped) (.type "ValueError") = some true
  kV_InWork : PySem.W.kitOne K (.ref C_InWork) (.type "ValueError") = some true
  C_Row : Addr
  g_Row : mg "Row" = some (.ref C_Row)
  M_Row : Mk K C_Row f_Row_init
  L_Row : Cls K C_Row
  n_Row_kettles : NoAttr K C_Row "kettles"
  n_Row_moulds : NoAttr K C_Row "moulds"
  C_SameRow : Addr
  g_SameRow : mg "SameRow" = some (.ref C_SameRow)
  M_SameRow : Mk K C_SameRow f_SameRow_init
  L_SameRow : Cls K C_SameRow
  n_SameRow_kettles : NoAttr K C_SameRow "kettles"
  n_SameRow_moulds : NoAttr K C_SameRow "moulds"
  C_Kettle : Addr
  g_Kettle : mg "Kettle" = some (.ref C_Kettle)
  M_Kettle : Mk K C_Kettle f_Kettle_init
  L_Kettle : Cls K C_Kettle
  n_Kettle_room : NoAttr K C_Kettle "room"
  n_Kettle_fire : NoAttr K C_Kettle "fire"
  n_Kettle_mark : NoAttr K C_Kettle "mark"
  n_Kettle_juice : NoAttr K C_Kettle "juice"
  n_Kettle_at_work : NoAttr K C_Kettle "at_work"
  C_Kettles : Addr
  g_Kettles : mg "Kettles" = some (.ref C_Kettles)
  M_Kettles : Mk K C_Kettles f_Kettles_init
  L_Kettles : Cls K C_Kettles
  n_Kettles__row : NoAttr K C_Kettles "_row"
  n_Kettles__table : NoAttr K C_Kettles "_table"
  n_Kettles__hour : NoAttr K C_Kettles "_hour"
  n_Kettles__boiled : NoAttr K C_Kettles "_boiled"
  m_Kettles__named : Meth K C_Kettles "_named" f_Kettles__named
  m_Kettles_boiled_off : Meth K C_Kettles "boiled_off" f_Kettles_boiled_off
  m_Kettles_juice_of : Meth K C_Kettles "juice_of" f_Kettles_juice_of
  m_Kettles_start : Meth K C_Kettles "start" f_Kettles_start
  m_Kettles_stop : Meth K C_Kettles "stop" f_Kettles_stop
  m_Kettles_skim : Meth K C_Kettles "skim" f_Kettles_skim
  m_Kettles_ladle : Meth K C_Kettles "ladle" f_Kettles_ladle
  m_Kettles_take_out : Meth K C_Kettles "take_out" f_Kettles_take_out
  m_Kettles_dip : Meth K C_Kettles "dip" f_Kettles_dip
  m_Kettles_pour : Meth K C_Kettles "pour" f_Kettles_pour
  m_Kettles_boil_on : Meth K C_Kettles "boil_on" f_Kettles_boil_on
  m_Kettle_boil : Meth K C_Kettle "boil" f_Kettle_boil
  c_p_is_name : Addr
  P_p_is_name : Addr
  k_p_is_name : FunC K "is_name" "is_name" s_p_is_name f_p_is_name fd_p_is_name c_p_is_name
  c_p__can_be_kettles : Addr
  P_p__can_be_kettles : Addr
  k_p__can_be_kettles : FunC K "_can_be_kettles" "_can_be_kettles" s_p__can_be_kettles f_p__can_be_kettles fd_p__can_be_kettles c_p__can_be_kettles
  c_p__can_be_moulds : Addr
  P_p__can_be_moulds : Addr
  k_p__can_be_moulds : FunC K "_can_be_moulds" "_can_be_moulds" s_p__can_be_moulds f_p__can_be_moulds fd_p__can_be_moulds c_p__can_be_moulds
  C_NOTHING : Addr
  g_NOTHING : mg "NOTHING" = some (.ref C_NOTHING)
  q_NOTHING : ∃ x y, ∀ H, SqT K H C_NOTHING [.ref x, .ref y] ∧ SqT K H x [.int 0, .int 1] ∧ SqT K H y [.int 0, .int 1]
  C_NOUGHT : Addr
  g_NOUGHT : mg "NOUGHT" = some (.ref C_NOUGHT)
  q_NOUGHT : ∀ H, SqT K H C_NOUGHT [.int 0, .int 1]
  C_ONE : Addr
  g_ONE : mg "ONE" = some (.ref C_ONE)
  q_ONE : ∀ H, SqT K H C_ONE [.int 1, .int 1]
set_option Elab.async true in
theorem ok_init_NoKettle {P : Program} {w : World} {K : PySem.W.Frag} {mg : Str → Option Value} {base : Heap} (T : All K mg) : FnOk P w K mg base CX0 1 T.fI_NoKettle T.fdI_NoKettle ["self", "what"] (sp_initX T.C_NoKettle "NoKettle") := by
  refine T.FI_NoKettle.ok sc_init_NoKettle (fun vs H Q E h => ?_) (fun cdv A outer s H vs Q E hr h => ?_)
  · obtain ⟨a, v, rfl, _⟩ := h
    rfl
  · obtain ⟨a, v, rfl, ha, q⟩ := h
    exact ⟨_, pss_cons (ps_ost (pv 0) (pv 1)) (pss_one (ps_ost (pv 0) (pe_cnm (pv 0)))), init_reads T.O_NoKettle T.E_NoKettle T.N_NoKettle ha fun dx h1 h2 => q dx h1 h2⟩
  in #guard_msgs (pass all) in example : True := trivial
set_option Elab.async true in
theorem ok_init_NoRoom {P : Program} {w : World} {K : PySem.W.Frag} {mg : Str → Option Value} {base : Heap} (T : All K mg) : FnOk P w K mg base CX0 1 T.fI_NoRoom T.fdI_NoRoom ["self", "what"] (sp_initX T.C_NoRoom "NoRoom") := by
  refine T.FI_NoRoom.ok sc_init_NoRoom (fun vs H Q E h => ?_) (fun cdv A outer s H vs Q E hr h => ?_)
  · obtain ⟨a, v, rfl, _⟩ := h
    rfl
  · obtain ⟨a, v, rfl, ha, q⟩ := h
    exact ⟨_, pss_cons (ps_ost (pv 0) (pv 1)) (pss_one (ps_ost (pv 0) (pe_cnm (pv 0)))), init_reads T.O_NoRoom T.E_NoRoom T.N_NoRoom ha fun dx h1 h2 => q dx h1 h2⟩
  in #guard_msgs (pass all) in example : True := trivial
set_option Elab.async true in
theorem ok_init_NoShare {P : Program} {w : World} {K : PySem.W.Frag} {mg : Str → Option Value} {base : Heap} (T : All K mg) : FnOk P w K mg base CX0 1 T.fI_NoShare T.fdI_NoShare ["self", "what"] (sp_initX T.C_NoShare "NoShare") := by
  refine T.FI_NoShare.ok sc_init_NoShare (fun vs H Q E h => ?_) (fun cdv A outer s H vs Q E hr h => ?_)
  · obtain ⟨a, v, rfl, _⟩ := h
    rfl
  · obtain ⟨a, v, rfl, ha, q⟩ := h
    exact ⟨_, pss_cons (ps_ost (pv 0) (pv 1)) (pss_one (ps_ost (pv 0) (pe_cnm (pv 0)))), init_reads T.O_NoShare T.E_NoShare T.N_NoShare ha fun dx h1 h2 => q dx h1 h2⟩
  in #guard_msgs (pass all) in example : True := trivial
set_option Elab.async true in
theorem ok_init_Empty {P : Program} {w : World} {K : PySem.W.Frag} {mg : Str → Option Value} {base : Heap} (T : All K mg) : FnOk P w K mg base CX0 1 T.fI_Empty T.fdI_Empty ["self", "what"] (sp_initX T.C_Empty "Empty") := by
  refine T.FI_Empty.ok sc_init_Empty (fun vs H Q E h => ?_) (fun cdv A outer s H vs Q E hr h => ?_)
  · obtain ⟨a, v, rfl, _⟩ := h
    rfl
  · obtain ⟨a, v, rfl, ha, q⟩ := h
    exact ⟨_, pss_cons (ps_ost (pv 0) (pv 1)) (pss_one (ps_ost (pv 0) (pe_cnm (pv 0)))), init_reads T.O_Empty T.E_Empty T.N_Empty ha fun dx h1 h2 => q dx h1 h2⟩
  in #guard_msgs (pass all) in example : True := trivial
set_option Elab.async true in
theorem ok_init_Same {P : Program} {w : World} {K : PySem.W.Frag} {mg : Str → Option Value} {base : Heap} (T : All K mg) : FnOk P w K mg base CX0 1 T.fI_Same T.fdI_Same ["self", "what"] (sp_initX T.C_Same "Same") := by
  refine T.FI_Same.ok sc_init_Same (fun vs H Q E h => ?_) (fun cdv A outer s H vs Q E hr h => ?_)
  · obtain ⟨a, v, rfl, _⟩ := h
    rfl
  · obtain ⟨a, v, rfl, ha, q⟩ := h
    exact ⟨_, pss_cons (ps_ost (pv 0) (pv 1)) (pss_one (ps_ost (pv 0) (pe_cnm (pv 0)))), init_reads T.O_Same T.E_Same T.N_Same ha fun dx h1 h2 => q dx h1 h2⟩
  in #guard_msgs (pass all) in example : True := trivial
set_option Elab.async true in
theorem ok_init_Stopped {P : Program} {w : World} {K : PySem.W.Frag} {mg : Str → Option Value} {base : Heap} (T : All K mg) : FnOk P w K mg base CX0 1 T.fI_Stopped T.fdI_Stopped ["self", "what"] (sp_initX T.C_Stopped "Stopped") := by
  refine T.FI_Stopped.ok sc_init_Stopped (fun vs H Q E h => ?_) (fun cdv A outer s H vs Q E hr h => ?_)
  · obtain ⟨a, v, rfl, _⟩ := h
    rfl
  · obtain ⟨a, v, rfl, ha, q⟩ := h
    exact ⟨_, pss_cons (ps_ost (pv 0) (pv 1)) (pss_one (ps_ost (pv 0) (pe_cnm (pv 0)))), init_reads T.O_Stopped T.E_Stopped T.N_Stopped ha fun dx h1 h2 => q dx h1 h2⟩
  in #guard_msgs (pass all) in example : True := trivial
set_option Elab.async true in
theorem ok_init_InWork {P : Program} {w : World} {K : PySem.W.Frag} {mg : Str → Option Value} {base : Heap} (T : All K mg) : FnOk P w K mg base CX0 1 T.fI_InWork T.fdI_InWork ["self", "what"] (sp_initX T.C_InWork "InWork") := by
  refine T.FI_InWork.ok sc_init_InWork (fun vs H Q E h => ?_) (fun cdv A outer s H vs Q E hr h => ?_)
  · obtain ⟨a, v, rfl, _⟩ := h
    rfl
  · obtain ⟨a, v, rfl, ha, q⟩ := h
    exact ⟨_, pss_cons (ps_ost (pv 0) (pv 1)) (pss_one (ps_ost (pv 0) (pe_cnm (pv 0)))), init_reads T.O_InWork T.E_InWork T.N_InWork ha fun dx h1 h2 => q dx h1 h2⟩
  in #guard_msgs (pass all) in example : True := trivial
def All.Ps {K : PySem.W.Frag} {mg : Str → Option Value} (T : All K mg) : List Addr := [T.P_p_is_name, T.P_p__can_be_kettles, T.P_p__can_be_moulds]
structure Tabs {K : PySem.W.Frag} {mg : Str → Option Value} (T : All K mg) (base : Heap) : Prop where
  t_p_is_name : GxR.TabB base mg T.c_p_is_name T.P_p_is_name
  t_p__can_be_kettles : GxR.TabB base mg T.c_p__can_be_kettles T.P_p__can_be_kettles
  t_p__can_be_moulds : GxR.TabB base mg T.c_p__can_be_moulds T.P_p__can_be_moulds
end KR
namespace KR
open PySem PySem.Spec PyProof.Rows L2
section
variable {P : Program} {w : World} {K : PySem.W.Frag} {mg : Str → Option Value} {base : Heap}
def sp_l_cell_at (K : PySem.W.Frag) : Sp := fun vs H Q _ => ∃ (a : Addr) (ns : List Int) (k : Int), vs = [.ref a, .int k] ∧ SqL K H a (ns.map V.int) ∧ 0 ≤ k ∧ ∀ z : Int, Q (.int z) H
set_option Elab.async true in
theorem ok_l_cell_at (T : All K mg) : FnOk P w K mg base CX0 1 T.f_l_cell_at T.fd_l_cell_at ["_law_script", "_law_k"] (sp_l_cell_at K) := by
  refine T.d_l_cell_at.fn.ok sc_l_cell_at (fun vs H Q E h => ?_) (fun cdv A outer s H vs Q E hr h => ?_)
  · obtain ⟨a, ns, k, rfl, _⟩ := h
    rfl
  · obtain ⟨a, ns, k, rfl, hS, h0, q⟩ := h
    refine ⟨_, (pss_cons (ps_if (pt_cmpR op_lt (pv 1) (pe_callB (lenQ (K := K) rfl) (by rfl) T.b_len PySem.boot_len (pa_cons (pv 0) pa_nil)) (nomark _)) (pss_one (ps_ret (pe_ix (ixL (K := K) rfl) (pv 0) (pv 1) (fun _ _ => rfl)))) pss_nil)
      (pss_one (ps_ret pe_int))), ?_⟩
    refine ⟨_, rfl, _, rfl, a, _, rfl, .inl hS, _, _, rfl, rfl, _, rfl, ite2 (fun c => ?_) (fun c => ?_)⟩
    · have c1 : k < ((ns.map V.int).length : Int) := of_decide_eq_true c
      rw [List.length_map] at c1
      refine ⟨_, rfl, _, rfl, a, _, k, _, rfl, rfl, hS, at_of (j := k.toNat) (by omega) (by rw [List.getElem?_map, List.getElem?_eq_getElem (show k.toNat < ns.length by omega)]; rfl), ?_⟩
      exact q _
    · exact q _
  in #guard_msgs (pass all) in example : True := trivial

end
end KR
namespace KR
open PySem PySem.Spec PyProof.Rows L2
section
variable {P : Program} {w : World} {K : PySem.W.Frag} {mg : Str → Option Value} {base : Heap}
def sp_l_box (K : PySem.W.Frag) : Sp := fun vs H Q _ => ∃ (a : Addr) (ns : List Int) (k : Int), vs = [.ref a, .int k] ∧ SqL K H a (ns.map V.int) ∧ 0 ≤ k ∧ k ≤ 63 ∧ ∀ p H', Same H H' → H p = none → BoxAt H' p 0 → Q (.ref p) H'
set_option Elab.async true in
theorem ok_l_box (T : All K mg) : FnOk P w K mg base CX0 2 T.f_l_box T.fd_l_box ["_law_script", "_law_k"] (sp_l_box K) := by
  refine T.d_l_box.fn.ok sc_l_box (fun vs H Q E h => ?_) (fun cdv A outer s H vs Q E hr h => ?_)
  · obtain ⟨a, ns, k, rfl, _⟩ := h
    rfl
  · obtain ⟨a, ns, k, rfl, hS, h0, h1, q⟩ := h
    refine ⟨_, (pss_cons (ps_set (i := 2) sc_l_box.nd rfl (by first | exact Or.inl rfl | exact Or.inr rfl) (pe_call (ok_l_cell_at T) hr (by rfl) T.d_l_cell_at.mg T.d_l_cell_at.fn.kp T.d_l_cell_at.b .nil pass0 (pa_cons (pv 0) (pa_cons (pv 1) pa_nil))))
      (pss_one (ps_ret (pe_lstI (pa_cons (pe_op op_mulX (pe_callB call_abs (by rfl) T.b_abs (by decide +kernel) (pa_cons (pv 2) pa_nil)) (pe_callTy call_int1 (by rfl) T.b_int (by decide +kernel) (pa_cons (pe_cmpR op_ge (pe_callB call_abs (by rfl) T.b_abs (by decide +kernel) (pa_cons (pv 2) pa_nil)) (pe_op op_pow pe_int pe_int) (nomark _)) pa_nil))) (pa_cons (pe_op op_add (pe_op op_add (pe_op op_mod (pv 2) pe_int) (pe_op op_mulX pe_int (pv 1))) pe_int) (pa_cons pe_int pa_nil))))))), ?_⟩
    refine ⟨_, rfl, _, rfl, a, ns, k, rfl, hS, h0, fun z => ?_⟩
    refine ⟨_, rfl, _, rfl, _, rfl, _, rfl, _, _, rfl, rfl, ⟨by decide, by decide, by decide⟩, _, _, rfl, rfl, .inr ⟨_, rfl, ?_⟩⟩
    refine ⟨_, _, rfl, rfl, mulR bit_lt, ?_⟩
    refine ⟨_, rfl, _, _, rfl, rfl, (by show (0 : Int) < 2305843009213693951; decide), _, rfl, _, _, rfl, rfl, mulL (by decide), _, _, rfl, rfl, _, _, rfl, rfl, rfl, fun p H1 s1 hp h1 => ?_⟩
    refine q p _ s1 hp ⟨_, _, _, h1, ?_, ?_, ?_, by decide, by decide⟩
    · refine Int.mul_nonneg (by split <;> omega) bit_nn
    · omega
    · omega
  in #guard_msgs (pass all) in example : True := trivial

end
end KR
namespace KR
open PySem PySem.Spec PyProof.Rows L2
section
variable {P : Program} {w : World} {K : PySem.W.Frag} {mg : Str → Option Value} {base : Heap}
def sp_l_take : Sp := fun vs H Q _ => ∃ (p : Addr) (m : Int) (n : Nat), vs = [.ref p, .int m] ∧ BoxAt H p n ∧ n ≤ 1000000000 ∧ 0 < m ∧ m.natAbs < 2 ^ 200 ∧ ∀ (z : Int) (H' : Hp), 0 ≤ z → z < m → BoxAt H' p (n + 1) → Fr p H H' → Q (.int z) H'
set_option Elab.async true in
theorem ok_l_take (T : All K mg) : FnOk P w K mg base CX0 1 T.f_l_take T.fd_l_take ["_law_box_here", "_law_many"] sp_l_take := by
  refine T.d_l_take.fn.ok sc_l_take (fun vs H Q E h => ?_) (fun cdv A outer s H vs Q E hr h => ?_)
  · obtain ⟨p, m, n, rfl, _⟩ := h
    rfl
  · obtain ⟨p, m, n, rfl, hB, hn, h0, hm, q⟩ := h
    obtain ⟨a, b, c, hp, ha, hb, hb2, hc, hcn⟩ := hB
    refine ⟨_, (pss_cons (ps_if (pt_cmpR op_gt (pe_ix (ixL (K := K) rfl) (pv 0) pe_int (fun _ _ => rfl)) pe_int (nomark _)) (pss_cons (ps_set (i := 2) sc_l_take.nd rfl (by first | exact Or.inl rfl | exact Or.inr rfl) (pe_op op_mod (pe_ix (ixL (K := K) rfl) (pv 0) pe_int (fun _ _ => rfl)) (pv 1)))
      (pss_cons (ps_asg (pe_op op_fdivW (pe_ix (ixL (K := K) rfl) (pv 0) pe_int (fun _ _ => rfl)) (pv 1)) (pg_sub (pv 0) pe_int set_list))
      (pss_one (ps_ret (pv 2))))) pss_nil)
      (pss_cons (ps_asg (pe_op op_add (pe_ix (ixL (K := K) rfl) (pv 0) pe_int (fun _ _ => rfl)) pe_int) (pg_sub (pv 0) pe_int set_list))
      (pss_cons (ps_set (i := 3) sc_l_take.nd rfl (by first | exact Or.inl rfl | exact Or.inr rfl) (pe_op op_mod (pe_op op_mulX (pe_op op_add (pe_ix (ixL (K := K) rfl) (pv 0) pe_int (fun _ _ => rfl)) (pe_op op_mulX pe_int (pe_ix (ixL (K := K) rfl) (pv 0) pe_int (fun _ _ => rfl)))) (pe_op op_add pe_int (pe_ix (ixL (K := K) rfl) (pv 0) pe_int (fun _ _ => rfl)))) pe_int))
      (pss_cons (ps_set (i := 4) sc_l_take.nd rfl (by first | exact Or.inl rfl | exact Or.inr rfl) (pe_op op_mod (pe_op op_mulX (pe_op op_add (pv 3) (pe_ix (ixL (K := K) rfl) (pv 0) pe_int (fun _ _ => rfl))) (pe_op op_add (pe_op op_mod (pv 3) pe_int) pe_int)) pe_int))
      (pss_one (ps_ret (pe_op op_mod (pe_op op_fdivW (pe_op op_mod (pe_op op_add (pe_op op_mulX (pv 4) pe_int) (pv 3)) pe_int) pe_int) (pv 1)))))))), ?_⟩
    refine ⟨_, rfl, p, _, 0, _, rfl, rfl, SqL.of hp, at0, _, _, rfl, rfl, _, rfl, ite2 (fun c1 => ?_) (fun c1 => ?_)⟩
    · refine ⟨_, rfl, p, _, 0, _, rfl, rfl, SqL.of hp, at0, _, rfl, _, _, rfl, rfl, h0, ?_⟩
      refine ⟨_, rfl, p, _, 0, _, rfl, rfl, SqL.of hp, at0, _, rfl, _, _, rfl, rfl, wide_div h0 hm (by decide) (by decide), ?_⟩
      refine ⟨_, rfl, p, _, 0, 0, rfl, rfl, hp, rfl, ?_⟩
      refine ⟨_, rfl, ?_⟩
      refine q _ _ (Int.emod_nonneg _ (by omega)) (Int.emod_lt_of_pos _ h0) ⟨_, _, _, upd_same, ?_, hb, hb2, hc, by omega⟩ (Fr.put Fr.refl)
      exact Int.ediv_nonneg ha (by omega)
    · refine ⟨_, rfl, p, _, 2, _, rfl, rfl, SqL.of hp, at2, _, _, rfl, rfl, _, rfl, p, _, 2, 2, rfl, rfl, hp, rfl, ?_⟩
      have hp2 : (upd H p (.lst [.int a, .int b, .int (c + 1)])) p = some (.lst [.int a, .int b, .int (c + 1)]) := upd_same
      refine ⟨_, rfl, p, _, 1, _, rfl, rfl, SqL.of hp2, at1, _, rfl, p, _, 2, _, rfl, rfl, SqL.of hp2, at2, _, _, rfl, rfl, mulL (by decide), _, _, rfl, rfl, ?_⟩
      refine ⟨_, rfl, p, _, 2, _, rfl, rfl, SqL.of hp2, at2, _, _, rfl, rfl, _, _, rfl, rfl, mulL (by omega), _, _, rfl, rfl, (by show (0 : Int) < 2147483647; decide), ?_⟩
      generalize e1 : (b + 48271 * (c + 1)) * (39373 + (c + 1)) % 2147483647 = o
      have o1 : 0 ≤ o ∧ o < 2147483647 := by omega
      refine ⟨_, rfl, _, rfl, p, _, 2, _, rfl, rfl, SqL.of hp2, at2, _, _, rfl, rfl, _, rfl, _, _, rfl, rfl, (by show (0 : Int) < 40009; decide), _, _, rfl, rfl, _, _, rfl, rfl, mulL (by omega), _, _, rfl, rfl, (by show (0 : Int) < 2147483629; decide), ?_⟩
      generalize e2 : (o + (c + 1)) * (o % 40009 + 7) % 2147483629 = t
      have t1 : 0 ≤ t ∧ t < 2147483629 := by omega
      refine ⟨_, rfl, _, _, rfl, rfl, mulL (by omega), _, rfl, _, _, rfl, rfl, _, _, rfl, rfl, (by show (0 : Int) < 2147483587; decide), _, _, rfl, rfl, wide_div (b := 10) (by decide) (by decide) (by decide) (by decide), _, rfl, _, _, rfl, rfl, h0, ?_⟩
      exact q _ _ (Int.emod_nonneg _ (by omega)) (Int.emod_lt_of_pos _ h0) ⟨_, _, _, upd_same, ha, hb, hb2, by omega, by omega⟩ (Fr.put Fr.refl)
  in #guard_msgs (pass all) in example : True := trivial

end
end KR
namespace KR
open PySem PySem.Spec PyProof.Rows L2
section
variable {P : Program} {w : World} {K : PySem.W.Frag} {mg : Str → Option Value} {base : Heap}
set_option Elab.async true in
theorem ok0_l_low (T : All K mg) : FnOk P w K mg base CX0 1 T.f_l_low T.fd_l_low ["_law_top", "_law_bottom"] sp_lowV := by
  refine T.d_l_low.fn.ok sc_l_low (fun vs H Q E h => ?_) (fun cdv A outer s H vs Q E hr h => ?_)
  · obtain ⟨t, b, rfl, _⟩ := h
    rfl
  · obtain ⟨t, b, rfl, hb, ht, hb2, q⟩ := h
    refine ⟨_, (pss_cons (ps_par (i := 2) (j := 3) (by rfl) sc_l_low.nd rfl rfl (by decide) rfl rfl (pa_cons (pe_callB call_abs (by rfl) T.b_abs (by decide +kernel) (pa_cons (pv 0) pa_nil)) (pa_cons (pe_callB call_abs (by rfl) T.b_abs (by decide +kernel) (pa_cons (pv 1) pa_nil)) pa_nil)) (by rfl))
      (pss_cons (ps_while PassesOwn.never (pt_cmpR op_gt (pv 3) pe_int (nomark _)) (pss_one (ps_par (i := 2) (j := 3) (by rfl) sc_l_low.nd rfl rfl (by decide) rfl rfl (pa_cons (pv 3) (pa_cons (pe_op op_mod (pv 2) (pv 3)) pa_nil)) (by rfl))))
      (pss_one (ps_ret (pe_tupI (pa_cons (pe_op op_mulX (pe_op op_fdivW (pv 0) (pv 2)) (pe_op op_sub pe_int (pe_op op_mulX pe_int (pe_callTy call_int1 (by rfl) T.b_int (by decide +kernel) (pa_cons (pe_cmpR op_lt (pv 1) pe_int (nomark _)) pa_nil))))) (pa_cons (pe_op op_fdivW (pe_callB call_abs (by rfl) T.b_abs (by decide +kernel) (pa_cons (pv 1) pa_nil)) (pv 2)) pa_nil))))))), ?_⟩
    have abs_ : ∀ z : Int, (if z < 0 then -z else z) = (z.natAbs : Int) := fun z => by split <;> omega
    refine ⟨_, rfl, _, rfl, _, rfl, _, rfl, _, _, rfl, ?_⟩
    rw [abs_, abs_]
    refine ⟨fun m σ H' => ∃ x y : Nat, σ = [some (.int t), some (.int b), some (.int x), some (.int y)] ∧ H' = H ∧ Nat.gcd x y = Nat.gcd t.natAbs b.natAbs ∧ m = y, ⟨_, _, _, rfl, rfl, rfl, rfl⟩, ?_⟩
    rintro m σ H' ⟨x, y, rfl, rfl, hg, rfl⟩
    refine ⟨_, rfl, _, _, rfl, rfl, _, rfl, ite2 (fun c => ?_) (fun c => ?_)⟩
    · have c1 : (0 : Int) < m := of_decide_eq_true c
      refine ⟨fun σ' H1 => ∃ x' y' : Nat, σ' = [some (.int t), some (.int b), some (.int x'), some (.int y')] ∧ H1 = H' ∧ Nat.gcd x' y' = Nat.gcd t.natAbs b.natAbs ∧ y' < m, fun σ' H1 ⟨x', y', e1, e2, e3, e4⟩ => ⟨y', e4, x', y', e1, e2, e3, rfl⟩, ?_⟩
      refine ⟨_, rfl, _, rfl, _, rfl, _, _, rfl, rfl, c1, _, _, rfl, ?_⟩
      refine ⟨m, x % m, by rw [Int.natCast_emod]; rfl, rfl, ?_, Nat.mod_lt _ (by omega)⟩
      rw [← hg, Nat.gcd_comm x m, Nat.gcd_rec m x, Nat.gcd_comm]
    · have c1 : ¬ (0 : Int) < m := of_decide_eq_false (Bool.eq_false_iff.mpr c)
      have m0 : m = 0 := by omega
      subst m0
      rw [Nat.gcd_zero_right] at hg
      have x0 : 0 < x := by
        rw [hg]
        exact Nat.gcd_pos_of_pos_right _ (by omega)
      have x1 : (x : Int).natAbs < 2 ^ 8900 := by
        rw [Int.natAbs_natCast, hg]
        exact Nat.lt_of_le_of_lt (Nat.le_of_dvd (by omega) (Nat.gcd_dvd_right _ _)) hb2
      refine ⟨_, rfl, _, rfl, _, _, rfl, rfl, wide_div (b := 8900) (by omega) x1 (by decide) (by decide), _, rfl, _, _, rfl, rfl, .inr ⟨_, rfl, ?_⟩⟩
      refine ⟨_, _, rfl, rfl, mulL (by decide), _, _, rfl, rfl, _, _, rfl, rfl, mulR (by rcases bit_or (c := decide (b < 0) = true) with z | z <;> rw [z] <;> decide), ?_⟩
      refine ⟨_, rfl, _, rfl, _, rfl, _, _, rfl, rfl, wide_div (b := 8900) (by omega) x1 (by decide) (by decide), rfl, fun p H1 s1 hp h1 => ?_⟩
      have e1 : t / (x : Int) * (1 - 2 * (if decide (b < 0) = true then 1 else 0)) = (low t b).1 := by
        unfold low
        rw [hg]
        by_cases z : b < 0
        · rw [if_pos (decide_eq_true z), if_pos z] <;> rfl
        · rw [if_neg (by rw [decide_eq_false z]; exact Bool.false_ne_true), if_neg z] <;> rfl
      have e2 : (if b < 0 then -b else b) / (x : Int) = (low t b).2 := by
        rw [abs_]
        unfold low
        rw [hg]
      refine q p H1 s1 hp ?_
      rw [← e1, ← e2]
      exact h1
  in #guard_msgs (pass all) in example : True := trivial
set_option Elab.async true in
theorem ok_l_low (T : All K mg) : FnOk P w K mg base CX0 1 T.f_l_low T.fd_l_low ["_law_top", "_law_bottom"] (sp_lowW K) := (ok0_l_low T).imp fun _ _ _ _ h => lowW h
  in #guard_msgs (pass all) in example : True := trivial

end
end KR
namespace KR
open PySem PySem.Spec PyProof.Rows L2
section
variable {P : Program} {w : World} {K : PySem.W.Frag} {mg : Str → Option Value} {base : Heap}
set_option Elab.async true in
theorem ok_l_plus (T : All K mg) : FnOk P w K mg base CX0 2 T.f_l_plus T.fd_l_plus ["_law_one", "_law_other"] (sp_w2 K (fun p q => p + q) (fun _ q => True)) := by
  refine T.d_l_plus.fn.ok sc_l_plus (fun vs H Q E h => ?_) (fun cdv A outer s H vs Q E hr h => ?_)
  · obtain ⟨x, y, p, q, rfl, _⟩ := h
    rfl
  · obtain ⟨x, y, p, q, rfl, hx, hy, zp, zq, hok, k⟩ := h
    have hx' : SqT K H x [.int p.num, .int (p.den : Int)] := hx
    have hy' : SqT K H y [.int q.num, .int (q.den : Int)] := hy
    refine ⟨_, (pss_one (ps_ret (pe_call (ok_l_low T) hr (by rfl) T.d_l_low.mg T.d_l_low.fn.kp T.d_l_low.b .nil pass0 (pa_cons (pe_op op_add (pe_op op_mulX (pe_ix (ixT (K := K) rfl) (pv 0) pe_int (fun _ _ => rfl)) (pe_ix (ixT (K := K) rfl) (pv 1) pe_int (fun _ _ => rfl))) (pe_op op_mulX (pe_ix (ixT (K := K) rfl) (pv 1) pe_int (fun _ _ => rfl)) (pe_ix (ixT (K := K) rfl) (pv 0) pe_int (fun _ _ => rfl)))) (pa_cons (pe_op op_mulX (pe_ix (ixT (K := K) rfl) (pv 0) pe_int (fun _ _ => rfl)) (pe_ix (ixT (K := K) rfl) (pv 1) pe_int (fun _ _ => rfl))) pa_nil))))), ?_⟩
    obtain ⟨a1, a2⟩ := zp
    obtain ⟨b1, b2⟩ := zq
    have hp := den_ne' p
    have hq := den_ne' q
    refine ⟨_, rfl, x, _, 0, _, rfl, rfl, hx', at0, _, rfl, y, _, 1, _, rfl, rfl, hy', at1, _, _, rfl, rfl, mulZ a1 b2 (by omega), _, rfl, y, _, 0, _, rfl, rfl, hy', at0, _, rfl, x, _, 1, _, rfl, rfl, hx', at1, _, _, rfl, rfl, mulZ b1 a2 (by omega), _, _, rfl, rfl, ?_⟩
    refine ⟨_, rfl, x, _, 1, _, rfl, rfl, hx', at1, _, rfl, y, _, 1, _, rfl, rfl, hy', at1, _, _, rfl, rfl, mulZ a2 b2 (by omega), ?_⟩
    refine ⟨_, _, rfl, Int.mul_ne_zero hp hq, lt_up (add_lt (wide_lt a1 b2) (wide_lt b1 a2)) (by omega), lt_up (wide_lt a2 b2) (by omega), ?_⟩
    intro z H' s1 n1 h1
    rw [rq_add] at h1
    exact k z H' s1 n1 h1
  in #guard_msgs (pass all) in example : True := trivial

end
end KR
namespace KR
open PySem PySem.Spec PyProof.Rows L2
section
variable {P : Program} {w : World} {K : PySem.W.Frag} {mg : Str → Option Value} {base : Heap}
set_option Elab.async true in
theorem ok_l_by (T : All K mg) : FnOk P w K mg base CX0 2 T.f_l_by T.fd_l_by ["_law_one", "_law_other"] (sp_w2 K (fun p q => p * q) (fun _ q => True)) := by
  refine T.d_l_by.fn.ok sc_l_by (fun vs H Q E h => ?_) (fun cdv A outer s H vs Q E hr h => ?_)
  · obtain ⟨x, y, p, q, rfl, _⟩ := h
    rfl
  · obtain ⟨x, y, p, q, rfl, hx, hy, zp, zq, hok, k⟩ := h
    have hx' : SqT K H x [.int p.num, .int (p.den : Int)] := hx
    have hy' : SqT K H y [.int q.num, .int (q.den : Int)] := hy
    refine ⟨_, (pss_one (ps_ret (pe_call (ok_l_low T) hr (by rfl) T.d_l_low.mg T.d_l_low.fn.kp T.d_l_low.b .nil pass0 (pa_cons (pe_op op_mulX (pe_ix (ixT (K := K) rfl) (pv 0) pe_int (fun _ _ => rfl)) (pe_ix (ixT (K := K) rfl) (pv 1) pe_int (fun _ _ => rfl))) (pa_cons (pe_op op_mulX (pe_ix (ixT (K := K) rfl) (pv 0) pe_int (fun _ _ => rfl)) (pe_ix (ixT (K := K) rfl) (pv 1) pe_int (fun _ _ => rfl))) pa_nil))))), ?_⟩
    obtain ⟨a1, a2⟩ := zp
    obtain ⟨b1, b2⟩ := zq
    have hp := den_ne' p
    have hq := den_ne' q
    refine ⟨_, rfl, x, _, 0, _, rfl, rfl, hx', at0, _, rfl, y, _, 0, _, rfl, rfl, hy', at0, _, _, rfl, rfl, mulZ a1 b1 (by omega), ?_⟩
    refine ⟨_, rfl, x, _, 1, _, rfl, rfl, hx', at1, _, rfl, y, _, 1, _, rfl, rfl, hy', at1, _, _, rfl, rfl, mulZ a2 b2 (by omega), ?_⟩
    refine ⟨_, _, rfl, Int.mul_ne_zero hp hq, lt_up (wide_lt a1 b1) (by omega), lt_up (wide_lt a2 b2) (by omega), ?_⟩
    intro z H' s1 n1 h1
    rw [rq_mul] at h1
    exact k z H' s1 n1 h1
  in #guard_msgs (pass all) in example : True := trivial

end
end KR
namespace KR
open PySem PySem.Spec PyProof.Rows L2
section
variable {P : Program} {w : World} {K : PySem.W.Frag} {mg : Str → Option Value} {base : Heap}
/-- a name without the letter q -/
structure NmQ (x : Str) : Prop where
  lo : 1 ≤ x.length
  hi : x.length ≤ 8
  az : ∀ c ∈ TL.tl x, 97 ≤ c ∧ c ≤ 122 ∧ c ≠ 113
theorem NmQ.nm {x : Str} (h : NmQ x) : Nm x := ⟨h.lo, h.hi, fun c hc => ⟨(h.az c hc).1, (h.az c hc).2.1⟩⟩
/-! ### texts of small letters -/
structure Lo (n : Nat) (y : Str) : Prop where
  len : y.length ≤ n
  az : ∀ c ∈ TL.tl y, 97 ≤ c ∧ c ≤ 122 ∧ c ≠ 113
set_option Elab.async true in
theorem Lo.app {n m : Nat} {x y : Str} (h : Lo n x) (k : Lo m y) : Lo (n + m) (x ++ y) := by
  have e : TL.tl (x ++ y) = TL.tl x ++ TL.tl y := TL.tl_append x y
  refine ⟨?_, fun c hc => ?_⟩
  · rw [TL.len_tl, e, List.length_append, ← TL.len_tl, ← TL.len_tl]
    exact Nat.add_le_add h.len k.len
  · rw [e] at hc
    exact (List.mem_append.mp hc).elim (h.az c) (k.az c)
  in #guard_msgs (pass all) in example : True := trivial
theorem Lo.up {n m : Nat} {y : Str} (h : Lo n y) (le : n ≤ m) : Lo m y := ⟨Nat.le_trans h.len le, h.az⟩
set_option Elab.async true in
theorem Lo.two {n m : Nat} {x y : Str} (h : Lo n x) (k : Lo m y) (le : n + m ≤ 100000 := by decide) : x.length + y.length ≤ sizeLine := small (Nat.le_trans (Nat.add_le_add h.len k.len) le)
  in #guard_msgs (pass all) in example : True := trivial
set_option Elab.async true in
theorem Lo.one {c : Nat} (h : 97 ≤ c ∧ c ≤ 122 ∧ c ≠ 113) : Lo 1 (S [c]) := ⟨Nat.le_refl 1, fun d hd => by rw [List.mem_singleton.mp hd]; exact h⟩
  in #guard_msgs (pass all) in example : True := trivial
set_option Elab.async true in
theorem Lo.of {l : List Nat} {n : Nat} (h : l.length ≤ n) (k : ∀ c ∈ l, 97 ≤ c ∧ c ≤ 122 ∧ c ≠ 113) : Lo n (S l) := ⟨by rw [S_len]; exact h, k⟩
  in #guard_msgs (pass all) in example : True := trivial
set_option Elab.async true in
theorem lo_rep {c m : Nat} (hc : 97 ≤ c ∧ c ≤ 122 ∧ c ≠ 113) (hm : m < 6) : Lo 5 (Txt.mul (S [c]) (m : Int)) := by
  have all : ∀ (l : List Nat), (∀ d ∈ l, d = c) → ∀ d ∈ l, 97 ≤ d ∧ d ≤ 122 ∧ d ≠ 113 := fun l h d hd => by rw [h d hd]; exact hc
  have ms : m = 0 ∨ m = 1 ∨ m = 2 ∨ m = 3 ∨ m = 4 ∨ m = 5 := by omega
  rcases ms with rfl | rfl | rfl | rfl | rfl | rfl
  · exact (show Lo 5 (S []) from Lo.of (by decide) (all _ (by simp)))
  · exact (show Lo 5 (S [c]) from Lo.of (by show 1 ≤ 5; decide) (all _ (by simp)))
  · exact (show Lo 5 (S [c, c]) from Lo.of (by show 2 ≤ 5; decide) (all _ (by simp)))
  · exact (show Lo 5 (S [c, c, c]) from Lo.of (by show 3 ≤ 5; decide) (all _ (by simp)))
  · exact (show Lo 5 (S [c, c, c, c]) from Lo.of (by show 4 ≤ 5; decide) (all _ (by simp)))
  · exact (show Lo 5 (S [c, c, c, c, c]) from Lo.of (by show 5 ≤ 5; decide) (all _ (by simp)))
  in #guard_msgs (pass all) in example : True := trivial
abbrev lets : Str := "abcdefghijklmnoprstuvwxyz"
/-- a letter by its place -/
def lt (i : Nat) : Nat := (lets.cps.toList[i]?).getD 97
theorem lt_inj : ∀ i, i < 25 → ∀ j, j < 25 → lt i = lt j → i = j := by decide +kernel
set_option Elab.async true in
theorem lt_az (i : Nat) : 97 ≤ lt i ∧ lt i ≤ 122 ∧ lt i ≠ 113 := by
  have al : ∀ c ∈ lets.cps.toList, 97 ≤ c ∧ c ≤ 122 ∧ c ≠ 113 := by decide +kernel
  unfold lt
  cases e : lets.cps.toList[i]? with
  | none => exact ⟨by decide, by decide, by decide⟩
  | some c => exact al c (List.mem_of_getElem? e)
  in #guard_msgs (pass all) in example : True := trivial
set_option Elab.async true in
theorem let_lt {y : Int} (h0 : 0 ≤ y) (h1 : y < 25) : atI lets.cps.toList y = some (lt y.toNat) := by
  obtain ⟨k, rfl⟩ : ∃ k : Nat, y = (k : Int) := ⟨y.toNat, by omega⟩
  have hl : lets.cps.toList.length = 25 := by decide +kernel
  have e : lets.cps.toList[k]? = some (lets.cps.toList[k]'(by omega)) := List.getElem?_eq_getElem (by omega)
  refine (atI_nat (j := k) e).trans ?_
  rw [Int.toNat_natCast]
  unfold lt
  rw [e] <;> rfl
  in #guard_msgs (pass all) in example : True := trivial
theorem lets_len : lets.length ≤ sizeLine := small (by decide +kernel)
/-- the name of a number below 625 -/
def nmOf (stem : Str) (v : Int) : Str := stem ++ S [lt (v / 25).toNat] ++ S [lt (v % 25).toNat]
set_option Elab.async true in
theorem nmOf_inj {stem : Str} {v u : Int} (v0 : 0 ≤ v) (v1 : v < 625) (u0 : 0 ≤ u) (u1 : u < 625) (e : nmOf stem v = nmOf stem u) : v = u := by
  have e1 := congrArg TL.tl e
  unfold nmOf at e1
  rw [TL.tl_append, TL.tl_append, TL.tl_append, TL.tl_append, List.append_assoc, List.append_assoc] at e1
  have e2 := List.append_cancel_left e1
  have e3 : [lt (v / 25).toNat, lt (v % 25).toNat] = [lt (u / 25).toNat, lt (u % 25).toNat] := e2
  rw [List.cons.injEq, List.cons.injEq] at e3
  have a1 := lt_inj _ (by omega) _ (by omega) e3.1
  have a2 := lt_inj _ (by omega) _ (by omega) e3.2.1
  omega
  in #guard_msgs (pass all) in example : True := trivial
/-- the number of turn k -/
def vAt (a st : Int) (k : Nat) : Int := (a + st * (k : Int)) % 625
set_option Elab.async true in
theorem vAt_box (a st : Int) (k : Nat) : 0 ≤ vAt a st k ∧ vAt a st k < 625 := ⟨Int.emod_nonneg _ (by decide), Int.emod_lt_of_pos _ (by decide)⟩
  in #guard_msgs (pass all) in example : True := trivial
set_option Elab.async true in
theorem vAt_inj {a st : Int} (h : st = 1 ∨ st = 26 ∨ st = 7 ∨ st = 251) {i j : Nat} (hi : i < 48) (hj : j < 48) (e : vAt a st i = vAt a st j) : i = j := by
  unfold vAt at e
  rcases h with rfl | rfl | rfl | rfl <;> omega
  in #guard_msgs (pass all) in example : True := trivial
set_option Elab.async true in
theorem nodup_sub_len : ∀ {l m : List Str}, l.Nodup → (∀ x ∈ l, x ∈ m) → l.length ≤ m.length
  | [], m, _, _ => Nat.zero_le _
  | x :: l, m, h, s => by
    have hx := s x List.mem_cons_self
    rw [List.nodup_cons] at h
    have r := nodup_sub_len (m := m.erase x) h.2 fun y hy => (List.mem_erase_of_ne (fun z : y = x => h.1 (z ▸ hy))).mpr (s y (List.mem_cons_of_mem _ hy))
    rw [List.length_erase_of_mem hx] at r
    have := List.length_pos_of_mem hx
    rw [List.length_cons]
    omega
  in #guard_msgs (pass all) in example : True := trivial
set_option Elab.async true in
theorem names_nodup {stem : Str} {a st : Int} (h : st = 1 ∨ st = 26 ∨ st = 7 ∨ st = 251) : ∀ n, n ≤ 48 → ((List.range n).map fun k => nmOf stem (vAt a st k)).Nodup := by
  intro n hn
  refine List.pairwise_map.mpr (List.Pairwise.imp_of_mem (fun {i j} hi hj ne e => ne ?_) (List.nodup_range (n := n)))
  exact vAt_inj h (by have := List.mem_range.mp hi; omega) (by have := List.mem_range.mp hj; omega) (nmOf_inj (vAt_box ..).1 (vAt_box ..).2 (vAt_box ..).1 (vAt_box ..).2 e)
  in #guard_msgs (pass all) in example : True := trivial
set_option Elab.async true in
theorem keys_dd : ∀ (l : List Str) (kvs : List (Key × V)) (acc : List Str), kvs.map (·.1) = acc.map (Sum.inr : Str → Key) → ((mergeK kvs (l.map fun y => ((Sum.inr y : Key), V.bl true))).map (·.1)) = (dd acc l).map (Sum.inr : Str → Key)
  | [], kvs, acc, h => h
  | x :: l, kvs, acc, h => by
    have mem : (kvs.any fun kv => decide (kv.1 = (Sum.inr x : Key))) = true ↔ x ∈ acc := by
      have m1 : (Sum.inr x : Key) ∈ kvs.map (·.1) ↔ x ∈ acc := by
        rw [h, List.mem_map]
        exact ⟨fun ⟨y, hy, e⟩ => by cases e; exact hy, fun hy => ⟨x, hy, rfl⟩⟩
      rw [← m1, List.any_eq_true, List.mem_map]
      exact ⟨fun ⟨y, hy, e⟩ => ⟨y, hy, of_decide_eq_true e⟩, fun ⟨y, hy, e⟩ => ⟨y, hy, decide_eq_true e⟩⟩
    have step : (putK kvs (Sum.inr x : Key) (V.bl true)).map (·.1) = (if x ∈ acc then acc else acc ++ [x]).map (Sum.inr : Str → Key) := by
      unfold putK
      by_cases c : x ∈ acc
      · rw [if_pos (mem.mpr c), if_pos c, ← h, List.map_map]
        refine List.map_congr_left fun y _ => ?_
        show (if y.1 = Sum.inr x then (y.1, V.bl true) else y).1 = y.1
        split <;> rfl
      · rw [if_neg (fun z => c (mem.mp z)), if_neg c, List.map_append, List.map_append, h] <;> rfl
    exact keys_dd l _ _ step
  in #guard_msgs (pass all) in example : True := trivial
set_option Elab.async true in
theorem keys_dist (l : List Str) : ((mergeK [] (l.map fun y => ((Sum.inr y : Key), V.bl true))).map fun kv => kV kv.1) = (dist l).map V.str := by
  have e := congrArg (List.map kV) (keys_dd l [] [] rfl)
  rw [List.map_map, List.map_map] at e
  exact e
  in #guard_msgs (pass all) in example : True := trivial
set_option Elab.async true in
theorem cut_take {xs : List V} {n : Nat} (h : n ≤ xs.length) : cutV xs none (some (n : Int)) = xs.take n := by
  unfold cutV
  rw [HT.sIx_none, HT.sIx_nat, List.drop_zero, Nat.sub_zero, Nat.min_eq_left h]
  in #guard_msgs (pass all) in example : True := trivial
set_option Elab.async true in
theorem pairs_of {K : PySem.W.Frag} {H : Hp} : ∀ (l : List (Addr × Str)), (∀ z ∈ l, H z.1 = some (.tup [.str z.2, .bl true])) → Paired (fun p (kv : Key × V) => SqT K H p [kV kv.1, kv.2]) (l.map (·.1)) (l.map fun z => (Sum.inr z.2, V.bl true))
  | [], _ => .nil
  | z :: l, h => .cons (SqT.of (h z List.mem_cons_self)) (pairs_of l fun y hy => h y (List.mem_cons_of_mem _ hy))
  in #guard_msgs (pass all) in example : True := trivial
def sp_l_names : Sp := fun vs H Q _ => ∃ (p : Addr) (n many : Nat), vs = [.ref p, .int many] ∧ 1 ≤ many ∧ many ≤ 48 ∧ BoxAt H p n ∧ n ≤ 999990000 ∧ ∀ (l : Addr) (ts : List Str) (H' : Hp), H' l = some (.lst (ts.map V.str)) → ts.length = many → ts.Nodup → (∀ y ∈ ts, NmQ y) → BoxAt H' p (n + 6) → Fr p H H' → Q (.ref l) H'
set_option Elab.async true in
theorem ok_l_names (T : All K mg) : FnOk P w K mg base CX0 2 T.f_l_names T.fd_l_names ["_law_box_here", "_law_many"] sp_l_names := by
  refine T.d_l_names.fn.ok sc_l_names (fun vs H Q E h => ?_) (fun cdv A outer s H vs Q E hr h => ?_)
  · obtain ⟨p, n, many, rfl, _⟩ := h
    rfl
  · obtain ⟨p, n, many, rfl, hm1, hm2, hB, hn, q⟩ := h
    refine ⟨_, (pss_cons (ps_par (i := 2) (j := 3) (by rfl) sc_l_names.nd rfl rfl (by decide) rfl rfl (pa_cons pe_str (pa_cons (pe_lstI pa_nil) pa_nil)) (by rfl))
      (pss_cons (ps_J (ps_if (pt_cmpR op_eq (pe_call (ok_l_take T) hr (by rfl) T.d_l_take.mg T.d_l_take.fn.kp T.d_l_take.b .nil pass0 (pa_cons (pv 0) (pa_cons pe_int pa_nil))) pe_int (nomark _)) (pss_cons (ps_set (i := 4) sc_l_names.nd rfl (by first | exact Or.inl rfl | exact Or.inr rfl) pe_str)
      (pss_one (ps_set (i := 3) sc_l_names.nd rfl (by first | exact Or.inl rfl | exact Or.inr rfl) (pe_split (pv 4) pe_str)))) pss_nil))
      (pss_cons (ps_par (i := 5) (j := 6) (by rfl) sc_l_names.nd rfl rfl (by decide) rfl rfl (pa_cons (pe_call (ok_l_take T) hr (by rfl) T.d_l_take.mg T.d_l_take.fn.kp T.d_l_take.b .nil pass0 (pa_cons (pv 0) (pa_cons pe_int pa_nil))) (pa_cons (pe_ix (ixL (K := K) rfl) (pe_lstI (pa_cons pe_int (pa_cons pe_int (pa_cons pe_int (pa_cons pe_int pa_nil))))) (pe_call (ok_l_take T) hr (by rfl) T.d_l_take.mg T.d_l_take.fn.kp T.d_l_take.b .nil pass0 (pa_cons (pv 0) (pa_cons pe_int pa_nil))) (fun _ _ => rfl)) pa_nil)) (by rfl))
      (pss_cons (ps_par (i := 7) (j := 8) (by rfl) sc_l_names.nd rfl rfl (by decide) rfl rfl (pa_cons (pe_op op_mul_str (pe_ix ix_str (pv 2) (pe_call (ok_l_take T) hr (by rfl) T.d_l_take.mg T.d_l_take.fn.kp T.d_l_take.b .nil pass0 (pa_cons (pv 0) (pa_cons pe_int pa_nil))) (fun _ _ => rfl)) (pe_call (ok_l_take T) hr (by rfl) T.d_l_take.mg T.d_l_take.fn.kp T.d_l_take.b .nil pass0 (pa_cons (pv 0) (pa_cons pe_int pa_nil)))) (pa_cons (pe_ix ix_str (pv 2) (pe_call (ok_l_take T) hr (by rfl) T.d_l_take.mg T.d_l_take.fn.kp T.d_l_take.b .nil pass0 (pa_cons (pv 0) (pa_cons pe_int pa_nil))) (fun _ _ => rfl)) pa_nil)) (by rfl))
      (pss_cons (ps_for PassesOwn.never rfl (pi_range1 (by rfl) T.b_range (pa_cons (pv 1) pa_nil)) (pg_name (i := 9) sc_l_names.nd rfl (by first | exact Or.inl rfl | exact Or.inr rfl)) (pss_cons (ps_asg (pe_callB call_divmodW (by rfl) T.b_divmod (by decide +kernel) (pa_cons (pe_op op_mod (pe_op op_add (pv 5) (pe_op op_mulX (pv 6) (pv 9))) pe_int) (pa_cons pe_int pa_nil))) (pg_tupK (K := K) rfl rfl (pgs_cons (pg_name (i := 10) sc_l_names.nd rfl (by first | exact Or.inl rfl | exact Or.inr rfl)) (pgs_cons (pg_name (i := 11) sc_l_names.nd rfl (by first | exact Or.inl rfl | exact Or.inr rfl)) pgs_nil))))
      (pss_cons (ps_set (i := 12) sc_l_names.nd rfl (by first | exact Or.inl rfl | exact Or.inr rfl) (pe_op op_add_str (pe_op op_add_str (pv 7) (pe_ix ix_str (pv 2) (pv 10) (fun _ _ => rfl))) (pe_ix ix_str (pv 2) (pv 11) (fun _ _ => rfl))))
      (pss_one (ps_expr (pe_bm PySem.F.plainAttrs_list PySem.F.slot_list_extend PySem.F.type_list_extend mt_extend (pv 3) (pa_cons (pe_slice (slL (K := K) rfl) (pe_lstI (pa_cons (pv 12) (pa_cons (pe_op op_add_str (pv 12) (pv 8)) pa_nil))) po_none (po_some (pe_op op_add pe_int (pe_callTy call_int1 (by rfl) T.b_int (by decide +kernel) (pa_cons (pe_cmpR op_eq (pe_op op_mod (pv 9) pe_int) pe_int (nomark _)) pa_nil))))) pa_nil)))))))
      (pss_one (ps_ret (pe_slice (slL (K := K) rfl) (pe_callTy (call_listD rfl) (by rfl) T.b_list (by decide +kernel) (pa_cons (pe_callTy (call_dictP rfl) (by rfl) T.b_dict (by decide +kernel) (pa_cons (pe_lc (own := [("_law_name_here", 12)]) (g := gName 12) (tt := tYes) (by rfl) sc_l_names.nd (pi_listK (K := K) rfl (pv 3)) (blkOk_by (own := [("_law_name_here", 12)]) (N := ["_law_box_here", "_law_many", "_law_letters", "_law_found", "_law_some", "_law_first", "_law_step", "_law_stem", "_law_tail", "_law_k", "_law_one", "_law_other", "_law_name_here"]) (sc := defScope s_l_names) (by decide +kernel)) (fun _ _ _ _ _ => (pg_name (i := 12) sc_l_names.nd rfl (by first | exact Or.inl rfl | exact Or.inr rfl))) (fun _ _ _ _ _ => pts_nil) (fun _ _ _ _ _ => (pe_tupI (pa_cons (pv 12) (pa_cons pe_bl pa_nil))))) pa_nil)) pa_nil)) po_none (po_some (pv 1)))))))))), ?_⟩
    refine ⟨rfl, fun fl0 H1 s1 n1 h1 => ⟨_, _, rfl, ?_⟩⟩
    have B1 := hB.same s1
    refine ⟨fun σ H3 => ∃ (fl2 : Addr) (u4 : Option V) (ts : List Str), σ = [some (.ref p), some (.int many), some (.str lets), some (.ref fl2), u4, none, none, none, none, none, none, none, none] ∧ H3 fl2 = some (.lst (ts.map V.str)) ∧ (∀ y ∈ ts, NmQ y) ∧ ts.length ≤ 16 ∧ BoxAt H3 p (n + 1) ∧ Fr p H H3 ∧ fl2 ≠ p ∧ H fl2 = none, ?_, ?_⟩
    case' refine_2 =>
      refine ⟨_, rfl, p, 3, n, rfl, B1, by omega, by decide, by decide, fun z H2 z0 z1 B2 F2 => ⟨rfl, _, rfl, ?_⟩⟩
      by_cases hz : z = 0
      · refine ite_iT hz ?_
        refine ⟨_, rfl, ⟨_, rfl⟩, _, _, rfl, rfl, rfl, small (by decide +kernel), fun fl hfl => ?_⟩
        have sm := same_new (o := .lst ((Txt.split ("kettle mould at juice ladle skim stop start strike drain knock drips untell vat sums never" : Str) (" " : Str)).map V.str)) hfl
        have lg : ∀ y ∈ Txt.split ("kettle mould at juice ladle skim stop start strike drain knock drips untell vat sums never" : Str) (" " : Str), 1 ≤ y.length ∧ y.length ≤ 8 ∧ ∀ c ∈ TL.tl y, 97 ≤ c ∧ c ≤ 122 ∧ c ≠ 113 := by decide +kernel
        have ll : (Txt.split ("kettle mould at juice ladle skim stop start strike drain knock drips untell vat sums never" : Str) (" " : Str)).length ≤ 16 := by decide +kernel
        obtain ⟨ob, ho⟩ := B2.some
        exact ⟨fl, _, _, rfl, upd_same, fun y hy => ⟨(lg y hy).1, (lg y hy).2.1, (lg y hy).2.2⟩, ll, B2.same sm, ((Fr.of s1).trans F2).trans (.of sm), B2.new hfl, s1.free (F2.free ho hfl)⟩
      · refine ite_iF hz ?_
        exact ⟨fl0, none, [], rfl, F2 _ _ (hB.new n1) h1, fun y hy => absurd hy List.not_mem_nil, Nat.zero_le _, B2, (Fr.of s1).trans F2, hB.new n1, n1⟩
    rintro σ H3 ⟨fl2, u4, ts, rfl, hg2, its, lts, B3, F03, nfl, nof⟩
    refine ⟨_, rfl, p, 625, n + 1, rfl, B3, by omega, by decide, by decide, fun a H4 a0 a1 B4 F4 => ?_⟩
    refine ⟨rfl, fun ls H5 s5 n5 h5 => ?_⟩
    have B5 := B4.same s5
    have nls := B4.new n5
    refine ⟨_, rfl, p, 4, n + 2, rfl, B5, by omega, by decide, by decide, fun way H6 k0 k1 B6 F6 => ?_⟩
    obtain ⟨st, es, st9⟩ : ∃ st : Int, atI ([.int 1, .int 26, .int 7, .int 251] : List V) way = some (.int st) ∧ (st = 1 ∨ st = 26 ∨ st = 7 ∨ st = 251) := by
      have ks : way = 0 ∨ way = 1 ∨ way = 2 ∨ way = 3 := by omega
      rcases ks with e | e | e | e <;> subst e
      · exact ⟨_, rfl, .inl rfl⟩
      · exact ⟨_, rfl, .inr (.inl rfl)⟩
      · exact ⟨_, rfl, .inr (.inr (.inl rfl))⟩
      · exact ⟨_, rfl, .inr (.inr (.inr rfl))⟩
    refine ⟨ls, _, way, _, rfl, rfl, SqL.of (F6 _ _ nls h5), es, ?_⟩
    refine ⟨_, _, rfl, ?_⟩
    refine ⟨_, rfl, _, rfl, p, 25, n + 3, rfl, B6, by omega, by decide, by decide, fun u H7 u0 u1 B7 F7 => ?_⟩
    refine ⟨_, _, _, rfl, rfl, lets_len, let_lt u0 u1, ?_⟩
    refine ⟨_, rfl, p, 6, n + 4, rfl, B7, by omega, by decide, by decide, fun v H8 v0 v1 B8 F8 => ?_⟩
    obtain ⟨m, rfl⟩ : ∃ m : Nat, v = (m : Int) := ⟨v.toNat, by omega⟩
    refine ⟨_, m, rfl, rfl, by show 1 * m ≤ 100000; omega, by omega, ?_⟩
    have gst : Lo 5 (Txt.mul (S [lt u.toNat]) (m : Int)) := lo_rep (lt_az _) (by omega)
    have est : Txt.mul ⟨#[lt u.toNat]⟩ (m : Int) = Txt.mul (S [lt u.toNat]) (m : Int) := rfl
    rw [est]
    generalize Txt.mul (S [lt u.toNat]) (m : Int) = stem at gst
    refine ⟨_, rfl, _, rfl, p, 25, n + 5, rfl, B8, by omega, by decide, by decide, fun u' H9 u0' u1' B9 F9 => ?_⟩
    refine ⟨_, _, _, rfl, rfl, lets_len, let_lt u0' u1', ?_⟩
    refine ⟨_, _, rfl, ?_⟩
    have gtl : Lo 1 (S [lt u'.toNat]) := Lo.one (lt_az _)
    have F39 : Fr p H3 H9 := F4.trans ((Fr.of s5).trans (F6.trans (F7.trans (F8.trans F9))))
    have hf9 := F39 _ _ nfl hg2
    refine ⟨_, rfl, many, rfl, by omega, by omega, for_range (lo := 0) (n := many) (fun i σ H' => ∃ (ts' : List Str) (v8 v9 v10 v11 : Option V), σ = [some (.ref p), some (.int many), some (.str lets), some (.ref fl2), u4, some (.int a), some (.int st), some (.str stem), some (.str (S [lt u'.toNat])), v8, v9, v10, v11] ∧ H' fl2 = some (.lst (ts'.map V.str)) ∧ (∀ y ∈ ts', NmQ y) ∧ ts'.length ≤ 16 + 2 * i ∧ (∀ j, j < i → nmOf stem (vAt a st j) ∈ ts') ∧ BoxAt H' p (n + 6) ∧ Fr p H H')
      ⟨ts, none, none, none, none, rfl, hf9, fun y hy => its y hy, by omega, fun j hj => absurd hj (Nat.not_lt_zero j), B9, F03.trans F39⟩ ?_ ?_⟩
    · rintro i σ Ha hi ⟨ts', v8, v9, v10, v11, rfl, hfa, gta, lta, ina, Ba, Fa⟩
      refine ⟨_, rfl, _, rfl, _, rfl, _, _, rfl, rfl, mulL (by omega), _, _, rfl, rfl, _, _, rfl, rfl, (by show (0 : Int) < 625; decide), ?_⟩
      have e0 : (a + st * (0 + (i : Int))) % 625 = vAt a st i := by rw [Int.zero_add] <;> rfl
      have X0 : 0 ≤ ((a + st * (0 + (i : Int))) % 625) := Int.emod_nonneg _ (by decide)
      have X1 : ((a + st * (0 + (i : Int))) % 625) < 625 := Int.emod_lt_of_pos _ (by decide)
      refine ⟨_, _, rfl, ⟨by decide, PyProof.noPylong_of_log2 (by decide +kernel)⟩, fun dp hdp => ?_⟩
      have smd := same_new (o := .tup [.int (((a + st * (0 + (i : Int))) % 625) / 25), .int (((a + st * (0 + (i : Int))) % 625) % 25)]) hdp
      refine ⟨dp, _, rfl, SqT.of upd_same, rfl, _, _, rfl, _, _, rfl, rfl, ?_⟩
      have y0 : 0 ≤ ((a + st * (0 + (i : Int))) % 625) / 25 := Int.ediv_nonneg X0 (by decide)
      have y1 : ((a + st * (0 + (i : Int))) % 625) / 25 < 25 := by omega
      have w0 : 0 ≤ ((a + st * (0 + (i : Int))) % 625) % 25 := by omega
      have w1 : ((a + st * (0 + (i : Int))) % 625) % 25 < 25 := by omega
      have g3 : Lo 1 (S [lt (((a + st * (0 + (i : Int))) % 625) / 25).toNat]) := Lo.one (lt_az _)
      have g4 : Lo 1 (S [lt (((a + st * (0 + (i : Int))) % 625) % 25).toNat]) := Lo.one (lt_az _)
      have gn := (gst.app g3).app g4
      refine ⟨_, rfl, _, rfl, _, rfl, _, _, _, rfl, rfl, lets_len, let_lt y0 y1, _, _, rfl, rfl, Lo.two gst g3, _, rfl, _, rfl, _, _, _, rfl, rfl, lets_len, let_lt w0 w1, _, _, rfl, rfl, Lo.two (gst.app g3) g4, ?_⟩
      have hfb := smd _ _ hfa
      refine ⟨_, rfl, .inl ⟨rfl, _, SqL.of hfb⟩, ?_⟩
      refine ⟨_, rfl, _, rfl, _, rfl, _, _, rfl, rfl, Lo.two gn gtl, rfl, fun sl Hb sb nb hb => ?_⟩
      refine ⟨_, rfl, _, _, rfl, rfl, (by show (0 : Int) < 4; decide), rfl, .inr ⟨_, rfl, _, _, rfl, rfl, _, rfl, ?_⟩⟩
      have n2 : ∀ y : Str, Lo 8 y → 2 ≤ y.length → NmQ y := fun y h l => ⟨by omega, h.len, h.az⟩
      have en : stem ++ S [lt (((a + st * (0 + (i : Int))) % 625) / 25).toNat] ++ S [lt (((a + st * (0 + (i : Int))) % 625) % 25).toNat] = nmOf stem (vAt a st i) := by rw [← e0] <;> rfl
      have l2 : ∀ y : Str, 2 ≤ (stem ++ S [lt (((a + st * (0 + (i : Int))) % 625) / 25).toNat] ++ S [lt (((a + st * (0 + (i : Int))) % 625) % 25).toNat] ++ y).length := fun y => by
        rw [TL.len_tl, TL.tl_append, TL.tl_append, TL.tl_append, List.length_append, List.length_append, List.length_append]
        show 2 ≤ _ + 1 + 1 + _
        omega
      have l3 : 2 ≤ (stem ++ S [lt (((a + st * (0 + (i : Int))) % 625) / 25).toNat] ++ S [lt (((a + st * (0 + (i : Int))) % 625) % 25).toNat]).length := by
        rw [TL.len_tl, TL.tl_append, TL.tl_append, List.length_append, List.length_append]
        show 2 ≤ _ + 1 + 1
        omega
      have l4 := gn.app gtl
      refine ⟨sl, _, rfl, SqL.of hb, fun p2 Hc sc nc hc => ?_⟩
      have pick : ∀ b : Bool, ∃ zs : List Str, cutV [V.str (stem ++ S [lt (((a + st * (0 + (i : Int))) % 625) / 25).toNat] ++ S [lt (((a + st * (0 + (i : Int))) % 625) % 25).toNat]), V.str ((stem ++ S [lt (((a + st * (0 + (i : Int))) % 625) / 25).toNat] ++ S [lt (((a + st * (0 + (i : Int))) % 625) % 25).toNat]) ++ S [lt u'.toNat])] none (some (1 + (if b = true then (1 : Int) else 0))) = zs.map V.str ∧ (stem ++ S [lt (((a + st * (0 + (i : Int))) % 625) / 25).toNat] ++ S [lt (((a + st * (0 + (i : Int))) % 625) % 25).toNat]) ∈ zs ∧ zs.length ≤ 2 ∧ ∀ y ∈ zs, NmQ y := fun b => by
        have m1 : NmQ (stem ++ S [lt (((a + st * (0 + (i : Int))) % 625) / 25).toNat] ++ S [lt (((a + st * (0 + (i : Int))) % 625) % 25).toNat]) := n2 (stem ++ S [lt (((a + st * (0 + (i : Int))) % 625) / 25).toNat] ++ S [lt (((a + st * (0 + (i : Int))) % 625) % 25).toNat]) (gn.up (by decide)) l3
        have m2 : NmQ ((stem ++ S [lt (((a + st * (0 + (i : Int))) % 625) / 25).toNat] ++ S [lt (((a + st * (0 + (i : Int))) % 625) % 25).toNat]) ++ S [lt u'.toNat]) := n2 _ l4 (l2 _)
        cases b
        · exact ⟨[(stem ++ S [lt (((a + st * (0 + (i : Int))) % 625) / 25).toNat] ++ S [lt (((a + st * (0 + (i : Int))) % 625) % 25).toNat])], rfl, List.mem_singleton.mpr rfl, by show 1 ≤ 2; decide, fun y hy => by rw [List.mem_singleton.mp hy]; exact m1⟩
        · refine ⟨[(stem ++ S [lt (((a + st * (0 + (i : Int))) % 625) / 25).toNat] ++ S [lt (((a + st * (0 + (i : Int))) % 625) % 25).toNat]), (stem ++ S [lt (((a + st * (0 + (i : Int))) % 625) / 25).toNat] ++ S [lt (((a + st * (0 + (i : Int))) % 625) % 25).toNat]) ++ S [lt u'.toNat]], rfl, List.mem_cons_self, Nat.le_refl 2, fun y hy => ?_⟩
          rcases List.mem_cons.mp hy with e | e
          · rw [e]
            exact m1
          · rw [List.mem_singleton.mp e]
            exact m2
      obtain ⟨zs, ez, inz, lz, az⟩ := pick _
      have hc2 : Hc p2 = some (.lst (zs.map V.str)) := hc.trans (congrArg (fun l => some (HO.lst l)) ez)
      refine ⟨fl2, p2, _, _, rfl, rfl, sc _ _ (sb _ _ hfb), hc2, ?_, ?_⟩
      · rw [List.length_map, List.length_map]
        exact small (by omega)
      have sE := smd.trans (sb.trans sc)
      refine ⟨ts' ++ zs, _, _, _, _, rfl, ?_, fun y hy => (List.mem_append.mp hy).elim (gta y) (az y), by rw [List.length_append]; omega, fun j hj => ?_, (Ba.same sE).upd nfl, Fr.put' (Fa.trans (.of sE)) nof⟩
      · rw [upd_same, List.map_append] <;> rfl
      · by_cases c : j = i
        · rw [c, ← en]
          exact List.mem_append_right _ inz
        · exact List.mem_append_left _ (ina j (by omega))
    · rintro σ Ha ⟨ts', v8, v9, v10, v11, rfl, hfa, gta, lta, ina, Ba, Fa⟩
      refine ⟨_, rfl, fl2, rfl, ⟨_, SqL.of hfa⟩, fun D hD => ?_⟩
      refine lc_list (K := K) (a := fl2) (xs := ts'.map V.str) (fun i H' => ∃ l : List (Addr × Str), Same Ha H' ∧ H' D = some (.lst (l.map fun z => V.ref z.1)) ∧ l.map (·.2) = ts'.take i ∧ ∀ z ∈ l, H' z.1 = some (.tup [.str z.2, .bl true])) ⟨[], same_new hD, upd_same, rfl, fun z hz => absurd hz List.not_mem_nil⟩ (fun i H' _ ⟨_, sm, _⟩ => SqL.of (sm _ _ hfa)) (fun i z H' hz w => ?_) ?_
      · obtain ⟨l, sm, hl, el, al⟩ := w
        rw [List.getElem?_map] at hz
        cases e : ts'[i]? with
        | none =>
          rw [e] at hz
          cases hz
        | some y =>
          rw [e] at hz
          obtain rfl : V.str y = z := Option.some.inj hz
          have i30 : i < 112 := by
            have := (List.getElem?_eq_some_iff.mp e).1
            omega
          refine ⟨rfl, yesT ?_⟩
          refine ⟨_, rfl, rfl, fun tp Hb sa na ha => ?_⟩
          have hla := sa _ _ hl
          have ll2 : l.length ≤ 112 := by
            have := congrArg List.length el
            rw [List.length_map, List.length_take] at this
            omega
          refine ⟨_, hla, by rw [List.length_map]; exact small' (by omega), l ++ [(tp, y)], Same.put (sm.trans sa) hD, by rw [upd_same, List.map_append] <;> rfl, by rw [List.map_append, el, take_one e] <;> rfl, fun u hu => ?_⟩
          have keep : ∀ c xs, Hb c = some (.tup xs) → (upd Hb D (.lst ((l.map fun z => V.ref z.1) ++ [V.ref tp]))) c = some (.tup xs) := fun c xs e => by
            rw [upd_ne (ne_of e hla (by intro z; cases z))]
            exact e
          rcases List.mem_append.mp hu with h | h
          · exact keep _ _ (sa _ _ (al u h))
          · obtain rfl := List.mem_singleton.mp h
            exact keep _ _ ha
      rintro Hb ⟨l, sm, hl, el, al⟩
      rw [List.length_map, List.take_length] at el
      have hl2 : Hb D = some (.lst ((l.map (·.1)).map V.ref)) := by
        rw [hl, List.map_map] <;> rfl
      refine ⟨D, _, _, rfl, SqL.of hl2, pairs_of l al, fun dd hdd => ?_⟩
      have s2 := same_new (o := .dK (mergeK [] (l.map fun z => (Sum.inr z.2, V.bl true)))) hdd
      refine ⟨dd, _, rfl, .inl upd_same, fun lk hlk => ?_⟩
      have ek2 : (mergeK [] (l.map fun z => ((Sum.inr z.2 : Key), V.bl true))).map (fun kv => kV kv.1) = (dist ts').map V.str := by
        rw [← el, ← keys_dist, List.map_map] <;> rfl
      have many_le : many ≤ (dist ts').length := by
        have nd := names_nodup (stem := stem) (a := a) st9 many hm2
        have r := nodup_sub_len (m := dist ts') nd fun x hx => by
          obtain ⟨j, hj, rfl⟩ := List.mem_map.mp hx
          exact mem_dist.mpr (ina j (List.mem_range.mp hj))
        rw [List.length_map, List.length_range] at r
        exact r
      refine ⟨_, rfl, _, rfl, lk, _, rfl, SqL.of upd_same, fun r Hz sz nz hz => ?_⟩
      have hz2 : Hz r = some (.lst (((dist ts').take many).map V.str)) := by
        refine hz.trans (congrArg (fun l => some (HO.lst l)) ?_)
        rw [ek2, cut_take (by rw [List.length_map]; exact many_le), List.map_take]
      have sE := sm.trans (s2.trans ((same_new hlk).trans sz))
      exact q r _ Hz hz2 (by rw [List.length_take, Nat.min_eq_left many_le]) ((List.take_sublist _ _).nodup (dist_nodup ts')) (fun y hy => gta y (mem_dist.mp (List.mem_of_mem_take hy))) (Ba.same sE) (Fa.trans (.of sE))
  in #guard_msgs (pass all) in example : True := trivial

end
end KR
namespace KR
open PySem PySem.Spec PyProof.Rows L2
section
variable {P : Program} {w : World} {K : PySem.W.Frag} {mg : Str → Option Value} {base : Heap}
def sp_p_is_number (K : PySem.W.Frag) : Sp := fun vs H Q _ => ∃ (p : Addr) (n : Nat) (v : V) (d : PyData), vs = [v] ∧ Dj K p H n v d ∧ Q (.bl (isNumD d)) H
set_option Elab.async true in
theorem ok_p_is_number (T : All K mg) : FnOk P w K mg base CX0 1 T.f_p_is_number T.fd_p_is_number ["thing"] (sp_p_is_number K) := by
  refine T.d_p_is_number.fn.ok sc_p_is_number (fun vs H Q E h => ?_) (fun cdv A outer s H vs Q E hr h => ?_)
  · obtain ⟨p, n, v, d, rfl, _⟩ := h
    rfl
  · obtain ⟨p, n, v, d, rfl, hd, q⟩ := h
    refine ⟨_, (pss_one (ps_ret (pe_and (pe_callB (isiK (K := K) rfl) (by rfl) T.b_isinstance (by decide +kernel) (pa_cons (pv 0) (pa_cons (pe_bltn (v := .ty "int") (by rfl) T.b_int (by decide +kernel) rfl) pa_nil))) (pe_one (pe_not (pe_callB (isiK (K := K) rfl) (by rfl) T.b_isinstance (by decide +kernel) (pa_cons (pv 0) (pa_cons (pe_bltn (v := .ty "bool") (by rfl) T.b_bool (by decide +kernel) rfl) pa_nil)))))))), ?_⟩
    obtain ⟨t, k⟩ := hd.kinds
    refine ⟨_, rfl, _, _, _, _, _, rfl, .ty _, k.ty, kit_ty k.int, _, rfl, ?_⟩
    unfold isNumD at q
    cases c : isIntD d with
    | false =>
      rw [c] at q
      exact iteF q
    | true =>
      rw [c] at q
      refine iteT ?_
      refine ⟨_, rfl, _, _, _, _, _, rfl, .ty _, k.ty, kit_ty k.bool, _, rfl, ?_⟩
      exact q
  in #guard_msgs (pass all) in example : True := trivial
def sp_q_is_number : Sp := fun vs H Q _ => ∃ n : Int, vs = [.int n] ∧ Q (.bl true) H
set_option Elab.async true in
theorem okq_p_is_number (T : All K mg) : FnOk P w K mg base CX0 1 T.f_p_is_number T.fd_p_is_number ["thing"] sp_q_is_number := by
  refine T.d_p_is_number.fn.ok sc_p_is_number (fun vs H Q E h => ?_) (fun cdv A outer s H vs Q E hr h => ?_)
  · obtain ⟨n, rfl, _⟩ := h
    rfl
  · obtain ⟨n, rfl, q⟩ := h
    refine ⟨_, (pss_one (ps_ret (pe_and (pe_callB (isiK (K := K) rfl) (by rfl) T.b_isinstance (by decide +kernel) (pa_cons (pv 0) (pa_cons (pe_bltn (v := .ty "int") (by rfl) T.b_int (by decide +kernel) rfl) pa_nil))) (pe_one (pe_not (pe_callB (isiK (K := K) rfl) (by rfl) T.b_isinstance (by decide +kernel) (pa_cons (pv 0) (pa_cons (pe_bltn (v := .ty "bool") (by rfl) T.b_bool (by decide +kernel) rfl) pa_nil)))))))), ?_⟩
    refine ⟨_, rfl, _, _, _, _, _, rfl, .ty _, .base (.int n), kit_ty (show kitB "int" "int" = some true by decide +kernel), _, rfl, ?_⟩
    refine iteT ?_
    refine ⟨_, rfl, _, _, _, _, _, rfl, .ty _, .base (.int n), kit_ty (show kitB "int" "bool" = some false by decide +kernel), _, rfl, ?_⟩
    exact q
  in #guard_msgs (pass all) in example : True := trivial

end
end KR
namespace KR
open PySem PySem.Spec PyProof.Rows L2
section
variable {P : Program} {w : World} {K : PySem.W.Frag} {mg : Str → Option Value} {base : Heap}
def sp_p_is_number_within : Sp := fun vs H Q _ => ∃ (i l m : Int), vs = [.int i, .int l, .int m] ∧ l ≤ i ∧ i ≤ m ∧ i.natAbs < 2 ^ 200 ∧ Q (.bl true) H
set_option Elab.async true in
theorem ok_p_is_number_within (T : All K mg) : FnOk P w K mg base CX0 2 T.f_p_is_number_within T.fd_p_is_number_within ["thing", "least", "most"] sp_p_is_number_within := by
  refine T.d_p_is_number_within.fn.ok sc_p_is_number_within (fun vs H Q E h => ?_) (fun cdv A outer s H vs Q E hr h => ?_)
  · obtain ⟨i, l, m, rfl, _⟩ := h
    rfl
  · obtain ⟨i, l, m, rfl, h1, h2, z, q⟩ := h
    refine ⟨_, (pss_one (ps_ret (pe_and (pe_call (ok_p_is_number T) hr (by rfl) T.d_p_is_number.mg T.d_p_is_number.fn.kp T.d_p_is_number.b .nil pass0 (pa_cons (pv 0) pa_nil)) (pe_one (pe_chain op_le op_le (pv 1) (pv 0) (pv 2)))))), ?_⟩
    refine ⟨_, rfl, 0, 1, _, _, rfl, .int 0 i z, _, rfl, ?_⟩
    refine iteT ?_
    refine ⟨_, rfl, _, rfl, _, _, rfl, rfl, _, rfl, ?_⟩
    refine ite_bT (decide_eq_true h1) ?_
    refine ⟨_, rfl, _, _, rfl, rfl, ?_⟩
    show Q (.bl (decide (i ≤ m))) H
    rw [decide_eq_true h2]
    exact q
  in #guard_msgs (pass all) in example : True := trivial

end
end KR
namespace KR
open PySem PySem.Spec PyProof.Rows L2
section
variable {P : Program} {w : World} {K : PySem.W.Frag} {mg : Str → Option Value} {base : Heap}
def sp_p_is_frac (K : PySem.W.Frag) : Sp := fun vs H Q _ => ∃ (p : Addr) (n : Nat) (v : V) (d : PyData), vs = [v] ∧ Dj K p H n v d ∧ Q (.bl (isFracD d)) H
set_option Elab.async true in
theorem ok_p_is_frac (T : All K mg) : FnOk P w K mg base CX0 2 T.f_p_is_frac T.fd_p_is_frac ["thing"] (sp_p_is_frac K) := by
  refine T.d_p_is_frac.fn.ok sc_p_is_frac (fun vs H Q E h => ?_) (fun cdv A outer s H vs Q E hr h => ?_)
  · obtain ⟨p, n, v, d, rfl, _⟩ := h
    rfl
  · obtain ⟨p, n, v, d, rfl, hd, q⟩ := h
    refine ⟨_, (pss_cons (ps_if (PW.pt (pw_or (pt_not (pt_val (pe_callB (isiK (K := K) rfl) (by rfl) T.b_isinstance (by decide +kernel) (pa_cons (pv 0) (pa_cons (pe_bltn (v := .ty "tuple") (by rfl) T.b_tuple (by decide +kernel) rfl) pa_nil))))) (pw_or1 (pt_cmpR op_ne (pe_callB (lenQ (K := K) rfl) (by rfl) T.b_len PySem.boot_len (pa_cons (pv 0) pa_nil)) pe_int (nomark _))))) (pss_one (ps_ret pe_bl)) pss_nil)
      (pss_cons (ps_asg (pv 0) (pg_tupK (K := K) rfl rfl (pgs_cons (pg_name (i := 1) sc_p_is_frac.nd rfl (by first | exact Or.inl rfl | exact Or.inr rfl)) (pgs_cons (pg_name (i := 2) sc_p_is_frac.nd rfl (by first | exact Or.inl rfl | exact Or.inr rfl)) pgs_nil))))
      (pss_cons (ps_if (PW.pt (pw_or (pt_not (pt_val (pe_call (ok_p_is_number T) hr (by rfl) T.d_p_is_number.mg T.d_p_is_number.fn.kp T.d_p_is_number.b .nil pass0 (pa_cons (pv 1) pa_nil)))) (pw_or1 (pt_not (pt_val (pe_call (ok_p_is_number T) hr (by rfl) T.d_p_is_number.mg T.d_p_is_number.fn.kp T.d_p_is_number.b .nil pass0 (pa_cons (pv 2) pa_nil))))))) (pss_one (ps_ret pe_bl)) pss_nil)
      (pss_one (ps_ret (pe_and (pe_cmpR op_gt (pv 2) pe_int (nomark _)) (pe_one (pe_cmpR op_eq (pe_callBfun cr_gcd (by rfl) T.m_gcd (pa_cons (pv 1) (pa_cons (pv 2) pa_nil))) pe_int (nomark _))))))))), ?_⟩
    obtain ⟨t, k⟩ := hd.kinds
    refine ⟨_, rfl, _, _, _, _, _, rfl, .ty _, k.ty, kit_ty k.tup, _, rfl, ?_⟩
    cases hd with
    | tup h1 h2 h3 h4 =>
      rename_i n a xs ds
      refine iteF ?_
      refine ⟨_, rfl, a, xs, rfl, .inr h1, rfl, _, rfl, ?_⟩
      by_cases two : xs.length = 2
      · refine ite_nF (by omega) ?_
        match xs, ds, two, h2, h1, h3, h4 with
        | [x, y], [dx, dy], _, _, h1, h3, h4 =>
          have X := h4 0 x dx rfl rfl
          have Y := h4 1 y dy rfl rfl
          refine ⟨_, rfl, a, _, rfl, h1, rfl, _, _, rfl, _, _, rfl, rfl, ?_⟩
          refine ⟨_, rfl, p, n, x, dx, rfl, X, _, rfl, ?_⟩
          cases c1 : isNumD dx with
          | false =>
            rw [frac_no (.inl c1)] at q
            exact iteT (iteT q)
          | true =>
            refine iteF ?_
            refine ⟨_, rfl, p, n, y, dy, rfl, Y, _, rfl, ?_⟩
            cases c2 : isNumD dy with
            | false =>
              rw [frac_no (.inr c2)] at q
              exact iteT q
            | true =>
              refine iteF ?_
              obtain ⟨i, rfl, rfl, _⟩ := dj_num X c1
              obtain ⟨j, rfl, rfl, _⟩ := dj_num Y c2
              refine ⟨_, rfl, _, _, rfl, rfl, _, rfl, ?_⟩
              have q' : Q (.bl (decide (0 < j) && decide (Nat.gcd i.natAbs j.natAbs = 1))) H := q
              by_cases pos : 0 < j
              · rw [decide_eq_true pos] at q'
                refine ite_bT (decide_eq_true pos) ?_
                refine ⟨_, rfl, _, rfl, _, _, rfl, rfl, ?_⟩
                have e : decide (V.int ((Nat.gcd i.natAbs j.natAbs : Nat) : Int) = V.int 1) = decide (Nat.gcd i.natAbs j.natAbs = 1) := by
                  by_cases z : Nat.gcd i.natAbs j.natAbs = 1
                  · rw [decide_eq_true z, z] <;> rfl
                  · rw [decide_eq_false z, decide_eq_false fun y => z (by have := V.int.inj y; omega)]
                rw [e]
                exact q'
              · rw [decide_eq_false pos] at q'
                exact ite_bF (decide_eq_false pos) q'
      · refine ite_nT (by omega) ?_
        rw [frac_len (by omega)] at q
        exact q
    | non => exact iteT q
    | bl => exact iteT q
    | int => exact iteT q
    | str => exact iteT q
    | lst => exact iteT q
  in #guard_msgs (pass all) in example : True := trivial
def sp_q_is_frac (K : PySem.W.Frag) : Sp := fun vs H Q _ => ∃ (x : Addr) (a b : Int), vs = [.ref x] ∧ SqT K H x [.int a, .int b] ∧ IsLow a b ∧ Q (.bl true) H
set_option Elab.async true in
theorem okq_p_is_frac (T : All K mg) : FnOk P w K mg base CX0 2 T.f_p_is_frac T.fd_p_is_frac ["thing"] (sp_q_is_frac K) := by
  refine T.d_p_is_frac.fn.ok sc_p_is_frac (fun vs H Q E h => ?_) (fun cdv A outer s H vs Q E hr h => ?_)
  · obtain ⟨x, a, b, rfl, _⟩ := h
    rfl
  · obtain ⟨x, a, b, rfl, hx, lo, q⟩ := h
    refine ⟨_, (pss_cons (ps_if (PW.pt (pw_or (pt_not (pt_val (pe_callB (isiK (K := K) rfl) (by rfl) T.b_isinstance (by decide +kernel) (pa_cons (pv 0) (pa_cons (pe_bltn (v := .ty "tuple") (by rfl) T.b_tuple (by decide +kernel) rfl) pa_nil))))) (pw_or1 (pt_cmpR op_ne (pe_callB (lenQ (K := K) rfl) (by rfl) T.b_len PySem.boot_len (pa_cons (pv 0) pa_nil)) pe_int (nomark _))))) (pss_one (ps_ret pe_bl)) pss_nil)
      (pss_cons (ps_asg (pv 0) (pg_tupK (K := K) rfl rfl (pgs_cons (pg_name (i := 1) sc_p_is_frac.nd rfl (by first | exact Or.inl rfl | exact Or.inr rfl)) (pgs_cons (pg_name (i := 2) sc_p_is_frac.nd rfl (by first | exact Or.inl rfl | exact Or.inr rfl)) pgs_nil))))
      (pss_cons (ps_if (PW.pt (pw_or (pt_not (pt_val (pe_call (okq_p_is_number T) hr (by rfl) T.d_p_is_number.mg T.d_p_is_number.fn.kp T.d_p_is_number.b .nil pass0 (pa_cons (pv 1) pa_nil)))) (pw_or1 (pt_not (pt_val (pe_call (okq_p_is_number T) hr (by rfl) T.d_p_is_number.mg T.d_p_is_number.fn.kp T.d_p_is_number.b .nil pass0 (pa_cons (pv 2) pa_nil))))))) (pss_one (ps_ret pe_bl)) pss_nil)
      (pss_one (ps_ret (pe_and (pe_cmpR op_gt (pv 2) pe_int (nomark _)) (pe_one (pe_cmpR op_eq (pe_callBfun cr_gcd (by rfl) T.m_gcd (pa_cons (pv 1) (pa_cons (pv 2) pa_nil))) pe_int (nomark _))))))))), ?_⟩
    refine ⟨_, rfl, _, _, _, _, _, rfl, .ty _, sqT_ty hx, kit_ty (show kitB "tuple" "tuple" = some true by decide +kernel), _, rfl, ?_⟩
    refine iteF ?_
    refine ⟨_, rfl, x, _, rfl, .inr hx, rfl, _, rfl, ?_⟩
    refine ite_nF rfl ?_
    refine ⟨_, rfl, x, _, rfl, hx, rfl, _, _, rfl, _, _, rfl, rfl, ?_⟩
    refine ⟨_, rfl, a, rfl, _, rfl, iteF ?_⟩
    refine ⟨_, rfl, b, rfl, _, rfl, iteF ?_⟩
    refine ⟨_, rfl, _, _, rfl, rfl, _, rfl, ?_⟩
    refine ite_bT (decide_eq_true lo.pos) ?_
    refine ⟨_, rfl, _, rfl, _, _, rfl, rfl, ?_⟩
    have e : decide (V.int ((Nat.gcd a.natAbs b.natAbs : Nat) : Int) = V.int 1) = true := by
      rw [lo.cop] <;> rfl
    rw [e]
    exact q
  in #guard_msgs (pass all) in example : True := trivial

end
end KR
namespace KR
open PySem PySem.Spec PyProof.Rows L2
section
variable {P : Program} {w : World} {K : PySem.W.Frag} {mg : Str → Option Value} {base : Heap}
def sp_p_is_name (P : Addr) : Sp := fun vs H Q _ => ∃ x : Str, vs = [.str x] ∧ Nm x ∧ GxR.TabG H P ∧ ∀ H', Sm H H' → Q (.bl true) H'
set_option Elab.async true in
theorem le_sign {a b : Nat} (h : a ≤ b) : (!decide ([b] < [a])) = true := by
  rw [Bool.not_eq_true', decide_eq_false_iff_not, List.cons_lt_cons_iff]
  rintro (z | ⟨_, z⟩)
  · omega
  · exact absurd z (by simp)
  in #guard_msgs (pass all) in example : True := trivial
set_option Elab.async true in
theorem ok_p_is_name (T : All K mg) (B : Tabs T base) : FnOk P w K mg base CX0 1 T.f_p_is_name T.fd_p_is_name ["thing"] (sp_p_is_name T.P_p_is_name) := by
  refine T.k_p_is_name.ok sc_p_is_name (fun vs H Q E h => ?_) (fun cdv A outer s H vs Q E hc hr h => ?_)
  · obtain ⟨x, rfl, _⟩ := h
    rfl
  · obtain ⟨x, rfl, nm, hT, q⟩ := h
    refine ⟨_, (pss_cons (ps_if (PW.pt (pw_or (pt_not (pt_val (pe_callB (isiK (K := K) rfl) (by rfl) T.b_isinstance (by decide +kernel) (pa_cons (pv 0) (pa_cons (pe_bltn (v := .ty "str") (by rfl) T.b_str (by decide +kernel) rfl) pa_nil))))) (pw_or1 (pt_not (pt_chain op_le op_le pe_int (pe_callB call_len_str (by rfl) T.b_len PySem.boot_len (pa_cons (pv 0) pa_nil)) (pe_glob (v := .int 8) rfl T.c_MOST_LETTERS ⟨_, rfl⟩)))))) (pss_one (ps_ret pe_bl)) pss_nil)
      (pss_one (ps_ret (pe_allG hr (by rfl) T.b_all (by decide +kernel) B.t_p_is_name hc ⟨rfl, rfl, by decide +kernel, by decide +kernel, rfl, rfl⟩ (pi_str (pv 0)) (fun _ _ _ _ _ _ => (pe_chain op_le_str op_le_str pe_str (pv 0) pe_str)) (by intro _; rfl))))), ?_⟩
    refine ⟨_, rfl, _, _, _, _, _, rfl, .ty _, .base (.str x), kit_ty (show kitB "str" "str" = some true by decide +kernel), _, rfl, ?_⟩
    refine iteF ?_
    refine ⟨_, rfl, _, rfl, small (by have := nm.hi; omega), _, _, rfl, rfl, _, rfl, ?_⟩
    refine ite_bT (decide_eq_true (by have := nm.lo; omega)) ?_
    refine ⟨_, _, rfl, rfl, _, rfl, ?_⟩
    rw [decide_eq_true (show ((x.length : Nat) : Int) ≤ 8 by have := nm.hi; omega)]
    refine iteF ?_
    refine ⟨_, rfl, x, rfl, hT, x.length, fun i H' => Sm H H' ∧ i ≤ x.length, fun H2 tb => ⟨Sm.tabbed tb hT, Nat.zero_le _⟩, fun i H2 ⟨sm, le⟩ => ?_⟩
    by_cases c : x.cps.size ≤ i
    · exact .inl ⟨c, q H2 sm⟩
    · refine .inr ⟨by show i < x.cps.size; omega, by show i < x.cps.size; omega, fun y H3 ⟨e3, z, hz, ey⟩ => ?_⟩
      subst e3 ey
      have az := nm.az z (by
        rw [← Array.getElem?_toList] at hz
        exact List.mem_of_getElem? hz)
      refine ⟨_, rfl, _, _, rfl, rfl, _, rfl, ?_⟩
      refine ite_bT (le_sign az.1) ?_
      refine ⟨_, _, rfl, rfl, _, rfl, ?_⟩
      refine ite_bT (le_sign az.2) ⟨sm, by show i + 1 ≤ x.cps.size; omega⟩
  in #guard_msgs (pass all) in example : True := trivial

end
end KR
namespace KR
open PySem PySem.Spec PyProof.Rows L2
section
variable {P : Program} {w : World} {K : PySem.W.Frag} {mg : Str → Option Value} {base : Heap}
def sp_p_are_unlike (K : PySem.W.Frag) : Sp := fun vs H Q _ => ∃ (l : Addr) (xs : List Str), vs = [.ref l] ∧ SqL K H l (xs.map V.str) ∧ xs.length < 4000 ∧ xs.Nodup ∧ Q (.bl true) H
set_option Elab.async true in
theorem ok_p_are_unlike (T : All K mg) : FnOk P w K mg base CX0 1 T.f_p_are_unlike T.fd_p_are_unlike ["names"] (sp_p_are_unlike K) := by
  refine T.d_p_are_unlike.fn.ok sc_p_are_unlike (fun vs H Q E h => ?_) (fun cdv A outer s H vs Q E hr h => ?_)
  · obtain ⟨l, xs, rfl, _⟩ := h
    rfl
  · obtain ⟨l, xs, rfl, hl, few, nd, q⟩ := h
    refine ⟨_, (pss_one (ps_ret (pe_cmpR op_eq (pe_lenSetS (K := K) rfl (by rfl) T.b_len (by rfl) T.b_set (pv 0)) (pe_callB (lenQ (K := K) rfl) (by rfl) T.b_len PySem.boot_len (pa_cons (pv 0) pa_nil)) (nomark _)))), ?_⟩
    refine ⟨_, rfl, l, xs, rfl, hl, few, _, rfl, l, _, rfl, .inl hl, ?_⟩
    refine ⟨rfl, ?_⟩
    rw [dist_len.mpr nd, List.length_map, decide_eq_true rfl]
    exact q
  in #guard_msgs (pass all) in example : True := trivial

end
end KR
namespace KR
open PySem PySem.Spec PyProof.Rows L2
section
variable {P : Program} {w : World} {K : PySem.W.Frag} {mg : Str → Option Value} {base : Heap}
def sp_p__are_name_and_room (P : Addr) : Sp := fun vs H Q _ => ∃ (x : Str) (r : Int), vs = [.str x, .int r] ∧ Nm x ∧ 1 ≤ r ∧ r ≤ 1000000 ∧ GxR.TabG H P ∧ ∀ H', Sm H H' → Q (.bl true) H'
set_option Elab.async true in
theorem ok_p__are_name_and_room (T : All K mg) (B : Tabs T base) : FnOk P w K mg base CX0 3 T.f_p__are_name_and_room T.fd_p__are_name_and_room ["name", "room"] (sp_p__are_name_and_room T.P_p_is_name) := by
  refine T.d_p__are_name_and_room.fn.ok sc_p__are_name_and_room (fun vs H Q E h => ?_) (fun cdv A outer s H vs Q E hr h => ?_)
  · obtain ⟨x, r, rfl, _⟩ := h
    rfl
  · obtain ⟨x, r, rfl, nm, r0, r1, hT, q⟩ := h
    refine ⟨_, (pss_one (ps_ret (pe_and (pe_call (ok_p_is_name T B) (hr.mono (by decide)) (by rfl) T.d_p_is_name.mg T.d_p_is_name.fn.kp T.d_p_is_name.b .nil pass0 (pa_cons (pv 0) pa_nil)) (pe_one (pe_call (ok_p_is_number_within T) hr (by rfl) T.d_p_is_number_within.mg T.d_p_is_number_within.fn.kp T.d_p_is_number_within.b .nil pass0 (pa_cons (pv 1) (pa_cons pe_int (pa_cons (pe_glob (v := .int 1000000) rfl T.c_MOST_ROOM ⟨_, rfl⟩) pa_nil)))))))), ?_⟩
    refine ⟨_, rfl, x, rfl, nm, hT, fun H1 s1 => ⟨_, rfl, iteT ?_⟩⟩
    exact ⟨_, rfl, _, _, _, rfl, r0, r1, by omega, q H1 s1⟩
  in #guard_msgs (pass all) in example : True := trivial

end
end KR
namespace KR
open PySem PySem.Spec PyProof.Rows L2
section
variable {P : Program} {w : World} {K : PySem.W.Frag} {mg : Str → Option Value} {base : Heap}
def sp_p__is_mark (K : PySem.W.Frag) : Sp := fun vs H Q _ => ∃ (m : Addr) (t b : Int), vs = [.ref m] ∧ SqT K H m [.int t, .int b] ∧ 0 < t ∧ t < b ∧ b ≤ 60 ∧ Nat.gcd t.natAbs b.natAbs = 1 ∧ Q (.bl true) H
set_option Elab.async true in
theorem ok_p__is_mark (T : All K mg) : FnOk P w K mg base CX0 3 T.f_p__is_mark T.fd_p__is_mark ["thing"] (sp_p__is_mark K) := by
  refine T.d_p__is_mark.fn.ok sc_p__is_mark (fun vs H Q E h => ?_) (fun cdv A outer s H vs Q E hr h => ?_)
  · obtain ⟨m, t, b, rfl, _⟩ := h
    rfl
  · obtain ⟨m, t, b, rfl, hm, t0, tb, b1, cop, q⟩ := h
    refine ⟨_, (pss_one (ps_ret (pe_and (pe_call (ok_p_is_frac T) hr (by rfl) T.d_p_is_frac.mg T.d_p_is_frac.fn.kp T.d_p_is_frac.b .nil pass0 (pa_cons (pv 0) pa_nil)) (pe_one (pe_chain3 op_lt op_lt op_le pe_int (pe_ix (ixT (K := K) rfl) (pv 0) pe_int (fun _ _ => rfl)) (pe_ix (ixT (K := K) rfl) (pv 0) pe_int (fun _ _ => rfl)) (pe_glob (v := .int 60) rfl T.c_MOST_MARK_BOTTOM ⟨_, rfl⟩)))))), ?_⟩
    have D : Dj K 0 H 2 (.ref m) (.tuple [.int t, .int b]) := .tup hm rfl (by show 2 ≤ 100000; decide) fun i u c hu hc => match i, hu, hc with
      | 0, hu, hc => by cases hu; cases hc; exact .int 0 _ (by omega)
      | 1, hu, hc => by cases hu; cases hc; exact .int 0 _ (by omega)
      | i + 2, hu, _ => by simp at hu
    have e : isFracD (.tuple [.int t, .int b]) = true := by
      show (decide (0 < b) && decide (Nat.gcd t.natAbs b.natAbs = 1)) = true
      rw [decide_eq_true (show 0 < b by omega), decide_eq_true cop] <;> rfl
    refine ⟨_, rfl, 0, _, _, _, rfl, D, _, rfl, ?_⟩
    rw [e]
    refine iteT ?_
    refine ⟨_, rfl, m, _, 0, _, rfl, rfl, hm, at0, _, _, rfl, rfl, _, rfl, ?_⟩
    refine ite_bT (decide_eq_true t0) ?_
    refine ⟨_, rfl, m, _, 1, _, rfl, rfl, hm, at1, _, _, rfl, rfl, _, rfl, ?_⟩
    refine ite_bT (decide_eq_true tb) ?_
    refine ⟨_, _, rfl, rfl, ?_⟩
    show Q (.bl (decide (b ≤ 60))) H
    rw [decide_eq_true b1]
    exact q
  in #guard_msgs (pass all) in example : True := trivial

end
end KR
namespace KR
open PySem PySem.Spec PyProof.Rows L2
section
variable {P : Program} {w : World} {K : PySem.W.Frag} {mg : Str → Option Value} {base : Heap}
def sp_p__is_drip (K : PySem.W.Frag) : Sp := fun vs H Q _ => ∃ (m : Addr) (t b : Int), vs = [.ref m] ∧ SqT K H m [.int t, .int b] ∧ 0 ≤ t ∧ t < b ∧ b ≤ 12 ∧ Nat.gcd t.natAbs b.natAbs = 1 ∧ Q (.bl true) H
set_option Elab.async true in
theorem ok_p__is_drip (T : All K mg) : FnOk P w K mg base CX0 3 T.f_p__is_drip T.fd_p__is_drip ["thing"] (sp_p__is_drip K) := by
  refine T.d_p__is_drip.fn.ok sc_p__is_drip (fun vs H Q E h => ?_) (fun cdv A outer s H vs Q E hr h => ?_)
  · obtain ⟨m, t, b, rfl, _⟩ := h
    rfl
  · obtain ⟨m, t, b, rfl, hm, t0, tb, b1, cop, q⟩ := h
    refine ⟨_, (pss_one (ps_ret (pe_and (pe_call (ok_p_is_frac T) hr (by rfl) T.d_p_is_frac.mg T.d_p_is_frac.fn.kp T.d_p_is_frac.b .nil pass0 (pa_cons (pv 0) pa_nil)) (pe_one (pe_chain3 op_le op_lt op_le pe_int (pe_ix (ixT (K := K) rfl) (pv 0) pe_int (fun _ _ => rfl)) (pe_ix (ixT (K := K) rfl) (pv 0) pe_int (fun _ _ => rfl)) (pe_glob (v := .int 12) rfl T.c_MOST_DRIP_BOTTOM ⟨_, rfl⟩)))))), ?_⟩
    have D : Dj K 0 H 2 (.ref m) (.tuple [.int t, .int b]) := .tup hm rfl (by show 2 ≤ 100000; decide) fun i u c hu hc => match i, hu, hc with
      | 0, hu, hc => by cases hu; cases hc; exact .int 0 _ (by omega)
      | 1, hu, hc => by cases hu; cases hc; exact .int 0 _ (by omega)
      | i + 2, hu, _ => by simp at hu
    have e : isFracD (.tuple [.int t, .int b]) = true := by
      show (decide (0 < b) && decide (Nat.gcd t.natAbs b.natAbs = 1)) = true
      rw [decide_eq_true (show 0 < b by omega), decide_eq_true cop] <;> rfl
    refine ⟨_, rfl, 0, _, _, _, rfl, D, _, rfl, ?_⟩
    rw [e]
    refine iteT ?_
    refine ⟨_, rfl, m, _, 0, _, rfl, rfl, hm, at0, _, _, rfl, rfl, _, rfl, ?_⟩
    refine ite_bT (decide_eq_true t0) ?_
    refine ⟨_, rfl, m, _, 1, _, rfl, rfl, hm, at1, _, _, rfl, rfl, _, rfl, ?_⟩
    refine ite_bT (decide_eq_true tb) ?_
    refine ⟨_, _, rfl, rfl, ?_⟩
    show Q (.bl (decide (b ≤ 12))) H
    rw [decide_eq_true b1]
    exact q
  in #guard_msgs (pass all) in example : True := trivial

end
end KR
namespace KR
open PySem PySem.Spec PyProof.Rows L2
section
variable {P : Program} {w : World} {K : PySem.W.Frag} {mg : Str → Option Value} {base : Heap}
def sp_p_is_kettle (K : PySem.W.Frag) (P : Addr) : Sp := fun vs H Q _ => (∃ (v : V) (x : Str) (d : PyData), vs = [v] ∧ KetAt K H v x d ∧ GxR.TabG H P ∧ ∀ H', Sm H H' → Q (.bl true) H') ∨ (∃ (a : Addr) (xs : List V), vs = [.ref a] ∧ SqT K H a xs ∧ xs.length ≠ 4 ∧ xs.length ≤ 100000 ∧ Q (.bl false) H)
set_option Elab.async true in
theorem ok_p_is_kettle (T : All K mg) (B : Tabs T base) : FnOk P w K mg base CX0 4 T.f_p_is_kettle T.fd_p_is_kettle ["thing"] (sp_p_is_kettle K T.P_p_is_name) := by
  refine T.d_p_is_kettle.fn.ok sc_p_is_kettle (fun vs H Q E h => ?_) (fun cdv A outer s H vs Q E hr h => ?_)
  · rcases h with ⟨v, x, d, rfl, _⟩ | ⟨a, xs, rfl, _⟩ <;> rfl
  · refine ⟨_, (pss_cons (ps_if (PW.pt (pw_or (pt_not (pt_val (pe_callB (isiK (K := K) rfl) (by rfl) T.b_isinstance (by decide +kernel) (pa_cons (pv 0) (pa_cons (pe_bltn (v := .ty "tuple") (by rfl) T.b_tuple (by decide +kernel) rfl) pa_nil))))) (pw_or1 (pt_cmpR op_ne (pe_callB (lenQ (K := K) rfl) (by rfl) T.b_len PySem.boot_len (pa_cons (pv 0) pa_nil)) pe_int (nomark _))))) (pss_one (ps_ret pe_bl)) pss_nil)
      (pss_cons (ps_asg (pv 0) (pg_tupK (K := K) rfl rfl (pgs_cons (pg_name (i := 1) sc_p_is_kettle.nd rfl (by first | exact Or.inl rfl | exact Or.inr rfl)) (pgs_cons (pg_name (i := 2) sc_p_is_kettle.nd rfl (by first | exact Or.inl rfl | exact Or.inr rfl)) (pgs_cons (pg_name (i := 3) sc_p_is_kettle.nd rfl (by first | exact Or.inl rfl | exact Or.inr rfl)) (pgs_cons (pg_name (i := 4) sc_p_is_kettle.nd rfl (by first | exact Or.inl rfl | exact Or.inr rfl)) pgs_nil))))))
      (pss_one (ps_ret (pe_and (pe_call (ok_p__are_name_and_room T B) hr (by rfl) T.d_p__are_name_and_room.mg T.d_p__are_name_and_room.fn.kp T.d_p__are_name_and_room.b .nil pass0 (pa_cons (pv 1) (pa_cons (pv 2) pa_nil))) (pe_and (pe_call (ok_p_is_number_within T) (hr.mono (by decide)) (by rfl) T.d_p_is_number_within.mg T.d_p_is_number_within.fn.kp T.d_p_is_number_within.b .nil pass0 (pa_cons (pv 3) (pa_cons pe_int (pa_cons (pe_glob (v := .int 10000) rfl T.c_MOST_FIRE ⟨_, rfl⟩) pa_nil)))) (pe_one (pe_call (ok_p__is_mark T) hr (by rfl) T.d_p__is_mark.mg T.d_p__is_mark.fn.kp T.d_p__is_mark.b .nil pass0 (pa_cons (pv 4) pa_nil))))))))), ?_⟩
    rcases h with ⟨v, x, d, rfl, ⟨a, m, r, f, t, b, rfl, h1, h2, k, rfl⟩, hT, q⟩ | ⟨a, xs, rfl, h1, n4, le, q⟩
    case' inr =>
      refine ⟨_, rfl, _, _, _, _, _, rfl, .ty _, sqT_ty h1, kit_ty (show kitB "tuple" "tuple" = some true by decide +kernel), _, rfl, ?_⟩
      refine iteF ?_
      refine ⟨_, rfl, a, _, rfl, .inr h1, rfl, _, rfl, ?_⟩
      exact ite_nT (by omega) q
    refine ⟨_, rfl, _, _, _, _, _, rfl, .ty _, sqT_ty h1, kit_ty (show kitB "tuple" "tuple" = some true by decide +kernel), _, rfl, ?_⟩
    refine iteF ?_
    refine ⟨_, rfl, a, _, rfl, .inr h1, rfl, _, rfl, ?_⟩
    refine ite_nF rfl ?_
    refine ⟨_, rfl, a, _, rfl, h1, rfl, _, _, rfl, _, _, rfl, _, _, rfl, _, _, rfl, rfl, ?_⟩
    refine ⟨_, rfl, _, rfl, x, r, rfl, k.nm, k.r0, k.r1, hT, fun H1 s1 => ⟨_, rfl, iteT ?_⟩⟩
    refine ⟨_, rfl, _, _, _, rfl, k.f0, k.f1, by have := k.f0; have := k.f1; omega, _, rfl, iteT ?_⟩
    exact ⟨_, rfl, m, t, b, rfl, s1.tup h2, k.t0, k.tb, k.b1, k.cop, q H1 s1⟩
  in #guard_msgs (pass all) in example : True := trivial

end
end KR
namespace KR
open PySem PySem.Spec PyProof.Rows L2
section
variable {P : Program} {w : World} {K : PySem.W.Frag} {mg : Str → Option Value} {base : Heap}
def sp_p_is_mould (K : PySem.W.Frag) (P : Addr) : Sp := fun vs H Q _ => (∃ (v : V) (x : Str) (d : PyData), vs = [v] ∧ MouAt K H v x d ∧ GxR.TabG H P ∧ ∀ H', Sm H H' → Q (.bl true) H') ∨ (∃ (a : Addr) (xs : List V), vs = [.ref a] ∧ SqT K H a xs ∧ xs.length ≠ 3 ∧ xs.length ≤ 100000 ∧ Q (.bl false) H)
set_option Elab.async true in
theorem ok_p_is_mould (T : All K mg) (B : Tabs T base) : FnOk P w K mg base CX0 4 T.f_p_is_mould T.fd_p_is_mould ["thing"] (sp_p_is_mould K T.P_p_is_name) := by
  refine T.d_p_is_mould.fn.ok sc_p_is_mould (fun vs H Q E h => ?_) (fun cdv A outer s H vs Q E hr h => ?_)
  · rcases h with ⟨v, x, d, rfl, _⟩ | ⟨a, xs, rfl, _⟩ <;> rfl
  · refine ⟨_, (pss_cons (ps_if (PW.pt (pw_or (pt_not (pt_val (pe_callB (isiK (K := K) rfl) (by rfl) T.b_isinstance (by decide +kernel) (pa_cons (pv 0) (pa_cons (pe_bltn (v := .ty "tuple") (by rfl) T.b_tuple (by decide +kernel) rfl) pa_nil))))) (pw_or1 (pt_cmpR op_ne (pe_callB (lenQ (K := K) rfl) (by rfl) T.b_len PySem.boot_len (pa_cons (pv 0) pa_nil)) pe_int (nomark _))))) (pss_one (ps_ret pe_bl)) pss_nil)
      (pss_cons (ps_asg (pv 0) (pg_tupK (K := K) rfl rfl (pgs_cons (pg_name (i := 1) sc_p_is_mould.nd rfl (by first | exact Or.inl rfl | exact Or.inr rfl)) (pgs_cons (pg_name (i := 2) sc_p_is_mould.nd rfl (by first | exact Or.inl rfl | exact Or.inr rfl)) (pgs_cons (pg_name (i := 3) sc_p_is_mould.nd rfl (by first | exact Or.inl rfl | exact Or.inr rfl)) pgs_nil)))))
      (pss_one (ps_ret (pe_and (pe_call (ok_p__are_name_and_room T B) hr (by rfl) T.d_p__are_name_and_room.mg T.d_p__are_name_and_room.fn.kp T.d_p__are_name_and_room.b .nil pass0 (pa_cons (pv 1) (pa_cons (pv 2) pa_nil))) (pe_one (pe_call (ok_p__is_drip T) hr (by rfl) T.d_p__is_drip.mg T.d_p__is_drip.fn.kp T.d_p__is_drip.b .nil pass0 (pa_cons (pv 3) pa_nil)))))))), ?_⟩
    rcases h with ⟨v, x, d, rfl, ⟨a, m, r, t, b, rfl, h1, h2, k, rfl⟩, hT, q⟩ | ⟨a, xs, rfl, h1, n4, le, q⟩
    case' inr =>
      refine ⟨_, rfl, _, _, _, _, _, rfl, .ty _, sqT_ty h1, kit_ty (show kitB "tuple" "tuple" = some true by decide +kernel), _, rfl, ?_⟩
      refine iteF ?_
      refine ⟨_, rfl, a, _, rfl, .inr h1, rfl, _, rfl, ?_⟩
      exact ite_nT (by omega) q
    refine ⟨_, rfl, _, _, _, _, _, rfl, .ty _, sqT_ty h1, kit_ty (show kitB "tuple" "tuple" = some true by decide +kernel), _, rfl, ?_⟩
    refine iteF ?_
    refine ⟨_, rfl, a, _, rfl, .inr h1, rfl, _, rfl, ?_⟩
    refine ite_nF rfl ?_
    refine ⟨_, rfl, a, _, rfl, h1, rfl, _, _, rfl, _, _, rfl, _, _, rfl, rfl, ?_⟩
    refine ⟨_, rfl, _, rfl, x, r, rfl, k.nm, k.r0, k.r1, hT, fun H1 s1 => ⟨_, rfl, iteT ?_⟩⟩
    exact ⟨_, rfl, m, t, b, rfl, s1.tup h2, k.t0, k.tb, k.b1, k.cop, q H1 s1⟩
  in #guard_msgs (pass all) in example : True := trivial

end
end KR
namespace KR
open PySem PySem.Spec PyProof.Rows L2
section
variable {P : Program} {w : World} {K : PySem.W.Frag} {mg : Str → Option Value} {base : Heap}
def sp_p__can_be_kettles (K : PySem.W.Frag) (Ps : List Addr) : Sp := fun vs H Q _ => ∃ (a : Addr) (xs : List V) (ns : List Str) (ds : List PyData), vs = [.ref a] ∧ SqT K H a xs ∧ AllAt (KetAt K H) xs ns ds ∧ 1 ≤ xs.length ∧ xs.length ≤ 8 ∧ ns.Nodup ∧ Tbs Ps H ∧ ∀ H', Sm H H' → Q (.bl true) H'
set_option Elab.async true in
theorem ok_p__can_be_kettles (T : All K mg) (B : Tabs T base) : FnOk P w K mg base CX0 6 T.f_p__can_be_kettles T.fd_p__can_be_kettles ["things"] (sp_p__can_be_kettles K T.Ps) := by
  refine T.k_p__can_be_kettles.ok sc_p__can_be_kettles (fun vs H Q E h => ?_) (fun cdv A outer s H vs Q E hc hr h => ?_)
  · obtain ⟨a, xs, ns, ds, rfl, _⟩ := h
    rfl
  · obtain ⟨a, xs, ns, ds, rfl, ha, hA, lo, hi, nd, hT, q⟩ := h
    have t1 : GxR.TabG H T.P_p__can_be_kettles := hT _ (by simp [All.Ps])
    have t2 : GxR.TabG H T.P_p_is_name := hT _ (by simp [All.Ps])
    refine ⟨_, (pss_cons (ps_if (PW.pt (pw_or (pt_not (pt_chain op_le op_le pe_int (pe_callB (lenQ (K := K) rfl) (by rfl) T.b_len PySem.boot_len (pa_cons (pv 0) pa_nil)) (pe_glob (v := .int 8) rfl T.c_MOST_KETTLES ⟨_, rfl⟩))) (pw_or1 (pt_not (pt_val (pe_allG hr (by rfl) T.b_all (by decide +kernel) B.t_p__can_be_kettles hc ⟨rfl, rfl, by decide +kernel, by decide +kernel, rfl, rfl⟩ (pi_tupK (K := K) rfl (pv 0)) (fun _ _ _ _ _ _ => (pe_call (ok_p_is_kettle T B) (room_gen hr) (by rfl) T.d_p_is_kettle.mg T.d_p_is_kettle.fn.kp T.d_p_is_kettle.b .nil pass0 (pa_cons (pv 0) pa_nil))) (by intro _; rfl))))))) (pss_one (ps_ret pe_bl)) pss_nil)
      (pss_one (ps_ret (pe_call (ok_p_are_unlike T) (hr.mono (by decide)) (by rfl) T.d_p_are_unlike.mg T.d_p_are_unlike.fn.kp T.d_p_are_unlike.b .nil pass0 (pa_cons (pe_lc (own := [("thing", 1)]) (g := gName 1) (tt := tYes) (by rfl) sc_p__can_be_kettles.nd (pi_tupK (K := K) rfl (pv 0)) (blkOk_by (own := [("thing", 1)]) (N := ["things", "thing"]) (sc := defScope s_p__can_be_kettles) (by decide +kernel)) (fun _ _ _ _ _ => (pg_name (i := 1) sc_p__can_be_kettles.nd rfl (by first | exact Or.inl rfl | exact Or.inr rfl))) (fun _ _ _ _ _ => pts_nil) (fun _ _ _ _ _ => (pe_ix (ixT (K := K) rfl) (pv 1) pe_int (fun _ _ => rfl)))) pa_nil))))), ?_⟩
    refine ⟨_, rfl, a, xs, rfl, .inr ha, _, _, rfl, rfl, _, rfl, ?_⟩
    refine ite_bT (decide_eq_true (by omega)) ?_
    refine ⟨_, _, rfl, rfl, _, rfl, ?_⟩
    rw [decide_eq_true (show ((xs.length : Nat) : Int) ≤ 8 by omega)]
    refine iteF ?_
    refine ⟨_, rfl, a, rfl, ⟨xs, ha⟩, t1, xs.length, fun i H' => Sm H H' ∧ i ≤ xs.length, fun H2 tb => ⟨Sm.tabbed tb t1, Nat.zero_le _⟩, fun i H2 ⟨sm, le⟩ => ?_⟩
    by_cases c : i = xs.length
    · refine .inl ⟨⟨xs, sm.tup ha, by omega⟩, _, rfl, iteF ?_⟩
      refine ⟨_, rfl, a, rfl, ⟨xs, sm.tup ha⟩, fun D hD => ?_⟩
      refine lc_tup (K := K) (a := a) (xs := xs) (fun j H3 => Same H2 H3 ∧ H3 D = some (.lst ((ns.take j).map V.str))) ⟨same_new hD, upd_same⟩ (fun j H3 _ z => Same.tup z.1 (sm.tup ha)) (fun j y H3 hy z => ?_) (fun H3 z => ?_)
      · obtain ⟨s3, l3⟩ := z
        have jl := (List.getElem?_eq_some_iff.mp hy).1
        obtain ⟨x, d, hx, _, ⟨b, m, r, f, t, b2, rfl, h1, _⟩⟩ := hA.get hy
        refine ⟨rfl, yesT ?_⟩
        refine ⟨_, rfl, b, _, 0, _, rfl, rfl, Same.tup s3 (sm.tup h1), at0, ?_⟩
        refine ⟨_, l3, by rw [List.length_map]; exact small' (by rw [List.length_take]; omega), Same.put s3 hD, ?_⟩
        rw [upd_same, List.take_add_one, hx, List.map_append] <;> rfl
      · obtain ⟨s3, l3⟩ := z
        rw [hA.ln, List.take_length] at l3
        exact ⟨D, ns, rfl, SqL.of l3, by have := hA.ln; omega, nd, q H3 (sm.trans (.of s3))⟩
    · obtain ⟨x, hx⟩ : ∃ x, xs[i]? = some x := ⟨_, List.getElem?_eq_getElem (by omega)⟩
      refine .inr ⟨⟨xs, x, sm.tup ha, hx⟩, by omega, fun y H3 ⟨e3, hy⟩ => ?_⟩
      subst e3
      obtain rfl := Option.some.inj ((hy xs (sm.tup ha)).symm.trans hx)
      obtain ⟨x, d, _, _, k⟩ := hA.get hx
      exact ⟨_, rfl, .inl ⟨y, x, d, rfl, k.tk (.sm sm), sm.tab _ t2, fun H4 s4 => ⟨true, rfl, sm.trans s4, by omega⟩⟩⟩
  in #guard_msgs (pass all) in example : True := trivial

end
end KR
namespace KR
open PySem PySem.Spec PyProof.Rows L2
section
variable {P : Program} {w : World} {K : PySem.W.Frag} {mg : Str → Option Value} {base : Heap}
def sp_p__can_be_moulds (K : PySem.W.Frag) (Ps : List Addr) : Sp := fun vs H Q _ => ∃ (a k : Addr) (xs ys : List V) (ns ms : List Str) (ds es : List PyData), vs = [.ref a, .ref k] ∧ SqT K H a xs ∧ AllAt (MouAt K H) xs ns ds ∧ SqT K H k ys ∧ AllAt (KetAt K H) ys ms es ∧ xs.length ≤ 40 ∧ 1 ≤ ys.length ∧ ys.length ≤ 8 ∧ (ms ++ ns).Nodup ∧ Tbs Ps H ∧ ∀ H', Sm H H' → Q (.bl true) H'
set_option Elab.async true in
theorem ok_p__can_be_moulds (T : All K mg) (B : Tabs T base) : FnOk P w K mg base CX0 6 T.f_p__can_be_moulds T.fd_p__can_be_moulds ["things", "kettles"] (sp_p__can_be_moulds K T.Ps) := by
  refine T.k_p__can_be_moulds.ok sc_p__can_be_moulds (fun vs H Q E h => ?_) (fun cdv A outer s H vs Q E hc hr h => ?_)
  · obtain ⟨a, k, xs, ys, ns, ms, ds, es, rfl, _⟩ := h
    rfl
  · obtain ⟨a, k, xs, ys, ns, ms, ds, es, rfl, ha, hA, hk, hB, most, lo, hi, nd, hT, q⟩ := h
    have t1 : GxR.TabG H T.P_p__can_be_moulds := hT _ (by simp [All.Ps])
    have t2 : GxR.TabG H T.P_p_is_name := hT _ (by simp [All.Ps])
    refine ⟨_, (pss_cons (ps_if (PW.pt (pw_or (pt_cmpR op_gt (pe_callB (lenQ (K := K) rfl) (by rfl) T.b_len PySem.boot_len (pa_cons (pv 0) pa_nil)) (pe_glob (v := .int 40) rfl T.c_MOST_MOULDS ⟨_, rfl⟩) (nomark _)) (pw_or1 (pt_not (pt_val (pe_allG hr (by rfl) T.b_all (by decide +kernel) B.t_p__can_be_moulds hc ⟨rfl, rfl, by decide +kernel, by decide +kernel, rfl, rfl⟩ (pi_tupK (K := K) rfl (pv 0)) (fun _ _ _ _ _ _ => (pe_call (ok_p_is_mould T B) (room_gen hr) (by rfl) T.d_p_is_mould.mg T.d_p_is_mould.fn.kp T.d_p_is_mould.b .nil pass0 (pa_cons (pv 0) pa_nil))) (by intro _; rfl))))))) (pss_one (ps_ret pe_bl)) pss_nil)
      (pss_one (ps_ret (pe_call (ok_p_are_unlike T) (hr.mono (by decide)) (by rfl) T.d_p_are_unlike.mg T.d_p_are_unlike.fn.kp T.d_p_are_unlike.b .nil pass0 (pa_cons (pe_lc (own := [("one", 3)]) (g := gName 3) (tt := tYes) (by rfl) sc_p__can_be_moulds.nd (pi_tupK (K := K) rfl (pe_op (op_catTI (K := K) rfl) (pv 1) (pv 0))) (blkOk_by (own := [("one", 3)]) (N := ["things", "kettles", "thing", "one"]) (sc := defScope s_p__can_be_moulds) (by decide +kernel)) (fun _ _ _ _ _ => (pg_name (i := 3) sc_p__can_be_moulds.nd rfl (by first | exact Or.inl rfl | exact Or.inr rfl))) (fun _ _ _ _ _ => pts_nil) (fun _ _ _ _ _ => (pe_ix (ixT (K := K) rfl) (pv 3) pe_int (fun _ _ => rfl)))) pa_nil))))), ?_⟩
    refine ⟨_, rfl, a, xs, rfl, .inr ha, _, _, rfl, rfl, _, rfl, ?_⟩
    refine ite_bF (decide_eq_false (by omega)) ?_
    refine ⟨_, rfl, a, rfl, ⟨xs, ha⟩, t1, xs.length, fun i H' => Sm H H' ∧ i ≤ xs.length, fun H2 tb => ⟨Sm.tabbed tb t1, Nat.zero_le _⟩, fun i H2 ⟨sm, le⟩ => ?_⟩
    by_cases c : i = xs.length
    · refine .inl ⟨⟨xs, sm.tup ha, by omega⟩, _, rfl, iteF ?_⟩
      have nm : ∀ (j : Nat) (y : V), (ys ++ xs)[j]? = some y → ∃ (x : Str) (b : Addr) (zs : List V), (ms ++ ns)[j]? = some x ∧ y = .ref b ∧ SqT K H b (.str x :: zs) := fun j y hy => by
        by_cases lt : j < ys.length
        · rw [List.getElem?_append_left lt] at hy
          obtain ⟨x, d, hx, _, ⟨b, m, r, f, t, b2, e, h1, _⟩⟩ := hB.get hy
          exact ⟨x, b, _, by rw [List.getElem?_append_left (by rw [← hB.ln]; exact lt)]; exact hx, e, h1⟩
        · rw [List.getElem?_append_right (by omega)] at hy
          obtain ⟨x, d, hx, _, ⟨b, m, r, t, b2, e, h1, _⟩⟩ := hA.get hy
          exact ⟨x, b, _, by rw [List.getElem?_append_right (by have := hB.ln; omega), ← hB.ln]; exact hx, e, h1⟩
      refine ⟨_, rfl, _, rfl, k, a, ys, xs, rfl, rfl, sm.tup hk, sm.tup ha, (by intro z; rw [z] at lo; exact absurd lo (by decide)), small (by omega), fun c2 Hc sc hc2 => ?_⟩
      refine ⟨c2, rfl, ⟨_, hc2⟩, fun D hD => ?_⟩
      refine lc_tup (K := K) (a := c2) (xs := ys ++ xs) (fun j H3 => Same Hc H3 ∧ H3 D = some (.lst (((ms ++ ns).take j).map V.str))) ⟨same_new hD, upd_same⟩ (fun j H3 _ z => Same.tup z.1 hc2) (fun j y H3 hy z => ?_) (fun H3 z => ?_)
      · obtain ⟨s3, l3⟩ := z
        have jl := (List.getElem?_eq_some_iff.mp hy).1
        rw [List.length_append] at jl
        obtain ⟨x, b, zs, hx, rfl, h1⟩ := nm j y hy
        refine ⟨rfl, yesT ?_⟩
        refine ⟨_, rfl, b, _, 0, _, rfl, rfl, Same.tup (sc.trans s3) (sm.tup h1), atI_nat (j := 0) rfl, ?_⟩
        refine ⟨_, l3, by rw [List.length_map]; exact small' (by rw [List.length_take]; omega), Same.put s3 hD, ?_⟩
        rw [upd_same, List.take_add_one, hx, List.map_append] <;> rfl
      · obtain ⟨s3, l3⟩ := z
        have ln : (ys ++ xs).length = (ms ++ ns).length := by rw [List.length_append, List.length_append, hA.ln, hB.ln]
        rw [ln, List.take_length] at l3
        exact ⟨D, ms ++ ns, rfl, SqL.of l3, by rw [← ln, List.length_append]; omega, nd, q H3 (sm.trans ((Sm.of sc).trans (.of s3)))⟩
    · obtain ⟨x, hx⟩ : ∃ x, xs[i]? = some x := ⟨_, List.getElem?_eq_getElem (by omega)⟩
      refine .inr ⟨⟨xs, x, sm.tup ha, hx⟩, by omega, fun y H3 ⟨e3, hy⟩ => ?_⟩
      subst e3
      obtain rfl := Option.some.inj ((hy xs (sm.tup ha)).symm.trans hx)
      obtain ⟨x, d, _, _, k⟩ := hA.get hx
      exact ⟨_, rfl, .inl ⟨y, x, d, rfl, k.tk (.sm sm), sm.tab _ t2, fun H4 s4 => ⟨true, rfl, sm.trans s4, by omega⟩⟩⟩
  in #guard_msgs (pass all) in example : True := trivial

end
end KR
namespace KR
open PySem PySem.Spec PyProof.Rows L2
section
variable {P : Program} {w : World} {K : PySem.W.Frag} {mg : Str → Option Value} {base : Heap}
/-- the attributes of a row, as they are stored -/
def rf (k m : Addr) : List (Str × V) := putF "moulds" (.ref m) (putF "kettles" (.ref k) [])
/-- a list or a tuple -/
def LT (K : PySem.W.Frag) (H : Hp) (a : Addr) (xs : List V) : Prop := SqL K H a xs ∨ SqT K H a xs
def sp_Row_init (K : PySem.W.Frag) (C : Addr) (Ps : List Addr) : Sp := fun vs H Q _ => ∃ (x dx k m : Addr) (xs ys : List V) (ns ms : List Str) (ds es : List PyData), vs = [.ref x, .ref k, .ref m] ∧ H x = some (.ins C dx []) ∧ LT K H k ys ∧ AllAt (KetAt K H) ys ms es ∧ LT K H m xs ∧ AllAt (MouAt K H) xs ns ds ∧
  xs.length ≤ 40 ∧ 1 ≤ ys.length ∧ ys.length ≤ 8 ∧ (ms ++ ns).Nodup ∧ Tbs Ps H ∧ ∀ k2 m2 H', H' x = some (.ins C dx (rf k2 m2)) → SqT K H' k2 ys → SqT K H' m2 xs → Fs x H H' → Q .non H'
set_option Elab.async true in
theorem tuple_of {K : PySem.W.Frag} {H : Hp} {a : Addr} {xs : List V} {Q : VK} (h : LT K H a xs) (k : ∀ l H', Same H H' → SqT K H' l xs → Q (.ref l) H') : rTupI K [.ref a] H Q := by
  rcases h with h | h
  · exact ⟨a, xs, rfl, .inl ⟨h, fun l H' s _ e => k l H' s (SqT.of e)⟩⟩
  · exact ⟨a, xs, rfl, .inr ⟨h, k a H (Same.refl _) h⟩⟩
  in #guard_msgs (pass all) in example : True := trivial
set_option Elab.async true in
theorem ok_Row_init (T : All K mg) (B : Tabs T base) : FnOk P w K mg base CX0 7 T.f_Row_init T.fd_Row_init ["self", "kettles", "moulds"] (sp_Row_init K T.C_Row T.Ps) := by
  refine T.F_Row_init.ok sc_Row_init (fun vs H Q E h => ?_) (fun cdv A outer s H vs Q E hr h => ?_)
  · obtain ⟨x, dx, k, m, xs, ys, ns, ms, ds, es, rfl, _⟩ := h
    rfl
  · obtain ⟨x, dx, k, m, xs, ys, ns, ms, ds, es, rfl, hx, hk, hB, hm, hA, most, lo, hi, nd, hT, q⟩ := h
    refine ⟨_, (pss_cons (ps_set (i := 1) sc_Row_init.nd rfl (by first | exact Or.inl rfl | exact Or.inr rfl) (pe_callTy (tupI (K := K) rfl) (by rfl) T.b_tuple (by decide +kernel) (pa_cons (pv 1) pa_nil)))
      (pss_cons (ps_set (i := 2) sc_Row_init.nd rfl (by first | exact Or.inl rfl | exact Or.inr rfl) (pe_callTy (tupI (K := K) rfl) (by rfl) T.b_tuple (by decide +kernel) (pa_cons (pv 2) pa_nil)))
      (pss_cons (ps_if (pt_not (pt_val (pe_call (ok_p__can_be_kettles T B) hr (by rfl) T.d_p__can_be_kettles.mg T.d_p__can_be_kettles.fn.kp T.d_p__can_be_kettles.b .nil pass0 (pa_cons (pv 1) pa_nil)))) (pss_one ps_never) pss_nil)
      (pss_cons (ps_if (pt_not (pt_val (pe_call (ok_p__can_be_moulds T B) hr (by rfl) T.d_p__can_be_moulds.mg T.d_p__can_be_moulds.fn.kp T.d_p__can_be_moulds.b .nil pass0 (pa_cons (pv 2) (pa_cons (pv 1) pa_nil))))) (pss_one ps_never) pss_nil)
      (pss_cons (ps_fld (pv 0) (pv 1) rfl)
      (pss_one (ps_fld (pv 0) (pv 2) rfl))))))), ?_⟩
    refine ⟨_, rfl, ?_⟩
    dsimp only [tNil]
    refine tuple_of hk fun k2 H1 s1 hk2 => ?_
    have hm1 : LT K H1 m xs := hm.imp (fun z => s1.seq z) (fun z => Same.tup s1 z)
    refine ⟨_, rfl, ?_⟩
    dsimp only [tNil]
    refine tuple_of hm1 fun m2 H2 s2 hm2 => ?_
    have hk2' := Same.tup s2 hk2
    have sm2 : Sm H H2 := .of (s1.trans s2)
    have hB2 := hB.map fun _ _ _ => KetAt.tk (.sm sm2)
    have hA2 := hA.map fun _ _ _ => MouAt.tk (.sm sm2)
    have nd2 := (List.nodup_append.mp nd).1
    refine ⟨_, rfl, k2, ys, ms, es, rfl, hk2', hB2, lo, hi, nd2, hT.sm sm2, fun H3 s3 => ⟨_, rfl, iteF ?_⟩⟩
    have sm3 := sm2.trans s3
    refine ⟨_, rfl, _, rfl, m2, k2, xs, ys, ns, ms, ds, es, rfl, s3.tup hm2, hA.map fun _ _ _ => MouAt.tk (.sm sm3), s3.tup hk2', hB.map fun _ _ _ => KetAt.tk (.sm sm3), most, lo, hi, nd, hT.sm sm3, fun H4 s4 => ⟨_, rfl, iteF ?_⟩⟩
    have sm4 := sm3.trans s4
    have hx4 : H4 x = some (.ins T.C_Row dx []) := sm4.keep _ _ hx nofun
    refine ⟨_, rfl, _, rfl, x, T.C_Row, dx, [], rfl, hx4, T.L_Row, T.n_Row_kettles, (by show 0 < 1000; decide), ?_⟩
    refine ⟨_, rfl, _, rfl, x, T.C_Row, dx, _, rfl, upd_same, T.L_Row, T.n_Row_moulds, (by show 1 < 1000; decide), ?_⟩
    have fs : Fs x H4 (upd (upd H4 x (.ins T.C_Row dx (putF "kettles" (.ref k2) []))) x (.ins T.C_Row dx (rf k2 m2))) := ⟨fun b o n e _ => by rw [upd_ne n, upd_ne n]; exact e, fun b n ⟨g, e, t⟩ => ⟨g, by rw [upd_ne n, upd_ne n]; exact e, t⟩⟩
    have tk : TK K H4 (upd (upd H4 x (.ins T.C_Row dx (putF "kettles" (.ref k2) []))) x (.ins T.C_Row dx (rf k2 m2))) := .fs (fun xs z => by rw [hx4] at z; cases z) (fun b y z => by rw [hx4] at z; cases z) fs
    exact q k2 m2 _ upd_same (tk _ _ (s4.tup (s3.tup hk2'))) (tk _ _ (s4.tup (s3.tup hm2))) ((Fs.sm sm4).trans fs)
  in #guard_msgs (pass all) in example : True := trivial
set_option Elab.async true in
/-- an instance that is made -/
theorem make_same {J : Hp} {x dx C : Addr} (nx : J x = none) (ndx : J dx = none) : Same J (upd (upd J dx (.own x)) x (.ins C dx [])) := Same.put (same_new ndx) nx
  in #guard_msgs (pass all) in example : True := trivial
set_option Elab.async true in
theorem make_sm {J H : Hp} {x dx C : Addr} (nx : J x = none) (ndx : J dx = none) (f : Fs x (upd (upd J dx (.own x)) x (.ins C dx [])) H) : Sm J H :=
  ⟨fun c o e t => f.keep c o (ne_of_none e nx) (make_same nx ndx c o e) t, fun c h => f.tab c (fun z => by obtain ⟨q, e, _⟩ := h; rw [z, nx] at e; cases e) ((Sm.of (make_same nx ndx)).tab c h)⟩
  in #guard_msgs (pass all) in example : True := trivial

end
end KR
namespace KR
open PySem PySem.Spec PyProof.Rows L2
section
variable {P : Program} {w : World} {K : PySem.W.Frag} {mg : Str → Option Value} {base : Heap}
set_option Elab.async true in
theorem fdivs {t b : Int} (hb : b ≠ 0) : (b < 0 → t.fdiv (-((Nat.gcd t.natAbs b.natAbs : Nat) : Int)) = (low t b).1 ∧ b.fdiv (-((Nat.gcd t.natAbs b.natAbs : Nat) : Int)) = (low t b).2) ∧
    (¬ b < 0 → t.fdiv ((Nat.gcd t.natAbs b.natAbs : Nat) : Int) = (low t b).1 ∧ b.fdiv ((Nat.gcd t.natAbs b.natAbs : Nat) : Int) = (low t b).2) := by
  have d1 : ((Nat.gcd t.natAbs b.natAbs : Nat) : Int) ∣ t := Int.ofNat_dvd_left.mpr (Nat.gcd_dvd_left _ _)
  have d2 : ((Nat.gcd t.natAbs b.natAbs : Nat) : Int) ∣ b := Int.ofNat_dvd_left.mpr (Nat.gcd_dvd_right _ _)
  have hg : 0 < Nat.gcd t.natAbs b.natAbs := Nat.gcd_pos_of_pos_right _ (by omega)
  unfold low
  generalize Nat.gcd t.natAbs b.natAbs = g at *
  refine ⟨fun c => ?_, fun c => ?_⟩
  · rw [fdiv_neg d1, fdiv_neg d2, if_pos c]
    refine ⟨rfl, ?_⟩
    have e : (b.natAbs : Int) = -b := by omega
    show b / (g : Int) * -1 = (b.natAbs : Int) / (g : Int)
    rw [e]
    obtain ⟨z, rfl⟩ := d2
    rw [Int.mul_ediv_cancel_left _ (by omega), ← Int.mul_neg, Int.mul_ediv_cancel_left _ (by omega)]
    omega
  · rw [if_neg c, Int.fdiv_eq_ediv_of_nonneg _ (by omega), Int.fdiv_eq_ediv_of_nonneg _ (by omega)]
    have e : (b.natAbs : Int) = b := by omega
    refine ⟨by omega, ?_⟩
    show b / (g : Int) = (b.natAbs : Int) / (g : Int)
    rw [e]
  in #guard_msgs (pass all) in example : True := trivial
set_option Elab.async true in
theorem ok0_p_frac_of (T : All K mg) : FnOk P w K mg base CX0 1 T.f_p_frac_of T.fd_p_frac_of ["top", "bottom"] sp_lowV := by
  refine T.d_p_frac_of.fn.ok sc_p_frac_of (fun vs H Q E h => ?_) (fun cdv A outer s H vs Q E hr h => ?_)
  · obtain ⟨t, b, rfl, _⟩ := h
    rfl
  · obtain ⟨t, b, rfl, hb, ht, hb2, q⟩ := h
    refine ⟨_, (pss_cons (ps_set (i := 2) sc_p_frac_of.nd rfl (by first | exact Or.inl rfl | exact Or.inr rfl) (pe_callBfun cr_gcd (by rfl) T.m_gcd (pa_cons (pv 0) (pa_cons (pv 1) pa_nil))))
      (pss_cons (ps_if (pt_cmpR op_lt (pv 1) pe_int (nomark _)) (pss_one (ps_set (i := 2) sc_p_frac_of.nd rfl (by first | exact Or.inl rfl | exact Or.inr rfl) (pe_un un_neg (pv 2)))) pss_nil)
      (pss_one (ps_ret (pe_tupI (pa_cons (pe_op op_fdivX (pv 0) (pv 2)) (pa_cons (pe_op op_fdivX (pv 1) (pv 2)) pa_nil))))))), ?_⟩
    have hg : 0 < Nat.gcd t.natAbs b.natAbs := Nat.gcd_pos_of_pos_right _ (by omega)
    have hg2 : Nat.gcd t.natAbs b.natAbs < 2 ^ 8900 := Nat.lt_of_le_of_lt (Nat.le_of_dvd (by omega) (Nat.gcd_dvd_right _ _)) hb2
    obtain ⟨k1, k2⟩ := fdivs (t := t) hb
    refine ⟨_, rfl, _, rfl, _, _, rfl, ?_⟩
    refine ⟨_, rfl, _, _, rfl, rfl, _, rfl, ite2 (fun c => ?_) (fun c => ?_)⟩
    · have c1 : b < 0 := of_decide_eq_true c
      have hd : ∀ z : Int, DivOk z (-((Nat.gcd t.natAbs b.natAbs : Nat) : Int)) := fun z => divOk (b := 8900) (by omega) (by rw [Int.natAbs_neg, Int.natAbs_natCast]; exact hg2) (by decide) (by decide)
      refine ⟨_, rfl, _, rfl, _, rfl, _, rfl, _, _, rfl, rfl, hd _, _, rfl, _, rfl, _, _, rfl, rfl, hd _, rfl, fun p H1 s1 hp h1 => ?_⟩
      refine q p H1 s1 hp ?_
      rw [← (k1 c1).1, ← (k1 c1).2]
      exact h1
    · have c1 : ¬ b < 0 := of_decide_eq_false (Bool.eq_false_iff.mpr c)
      have hd : ∀ z : Int, DivOk z ((Nat.gcd t.natAbs b.natAbs : Nat) : Int) := fun z => divOk (b := 8900) (by omega) (by rw [Int.natAbs_natCast]; exact hg2) (by decide) (by decide)
      refine ⟨_, rfl, _, rfl, _, _, rfl, rfl, hd _, _, rfl, _, rfl, _, _, rfl, rfl, hd _, rfl, fun p H1 s1 hp h1 => ?_⟩
      refine q p H1 s1 hp ?_
      rw [← (k2 c1).1, ← (k2 c1).2]
      exact h1
  in #guard_msgs (pass all) in example : True := trivial
set_option Elab.async true in
theorem ok_p_frac_of (T : All K mg) : FnOk P w K mg base CX0 1 T.f_p_frac_of T.fd_p_frac_of ["top", "bottom"] (sp_lowW K) := (ok0_p_frac_of T).imp fun _ _ _ _ h => lowW h
  in #guard_msgs (pass all) in example : True := trivial

end
end KR
namespace KR
open PySem PySem.Spec PyProof.Rows L2
section
variable {P : Program} {w : World} {K : PySem.W.Frag} {mg : Str → Option Value} {base : Heap}
set_option Elab.async true in
theorem ok_p_sum_of (T : All K mg) : FnOk P w K mg base CX0 2 T.f_p_sum_of T.fd_p_sum_of ["one", "other"] (sp_w2 K (fun p q => p + q) (fun _ q => True)) := by
  refine T.d_p_sum_of.fn.ok sc_p_sum_of (fun vs H Q E h => ?_) (fun cdv A outer s H vs Q E hr h => ?_)
  · obtain ⟨x, y, p, q, rfl, _⟩ := h
    rfl
  · obtain ⟨x, y, p, q, rfl, hx, hy, zp, zq, hok, k⟩ := h
    have hx' : SqT K H x [.int p.num, .int (p.den : Int)] := hx
    have hy' : SqT K H y [.int q.num, .int (q.den : Int)] := hy
    refine ⟨_, (pss_one (ps_ret (pe_call (ok_p_frac_of T) hr (by rfl) T.d_p_frac_of.mg T.d_p_frac_of.fn.kp T.d_p_frac_of.b .nil pass0 (pa_cons (pe_op op_add (pe_op op_mulX (pe_ix (ixT (K := K) rfl) (pv 0) pe_int (fun _ _ => rfl)) (pe_ix (ixT (K := K) rfl) (pv 1) pe_int (fun _ _ => rfl))) (pe_op op_mulX (pe_ix (ixT (K := K) rfl) (pv 1) pe_int (fun _ _ => rfl)) (pe_ix (ixT (K := K) rfl) (pv 0) pe_int (fun _ _ => rfl)))) (pa_cons (pe_op op_mulX (pe_ix (ixT (K := K) rfl) (pv 0) pe_int (fun _ _ => rfl)) (pe_ix (ixT (K := K) rfl) (pv 1) pe_int (fun _ _ => rfl))) pa_nil))))), ?_⟩
    obtain ⟨a1, a2⟩ := zp
    obtain ⟨b1, b2⟩ := zq
    have hp := den_ne' p
    have hq := den_ne' q
    refine ⟨_, rfl, x, _, 0, _, rfl, rfl, hx', at0, _, rfl, y, _, 1, _, rfl, rfl, hy', at1, _, _, rfl, rfl, mulZ a1 b2 (by omega), _, rfl, y, _, 0, _, rfl, rfl, hy', at0, _, rfl, x, _, 1, _, rfl, rfl, hx', at1, _, _, rfl, rfl, mulZ b1 a2 (by omega), _, _, rfl, rfl, ?_⟩
    refine ⟨_, rfl, x, _, 1, _, rfl, rfl, hx', at1, _, rfl, y, _, 1, _, rfl, rfl, hy', at1, _, _, rfl, rfl, mulZ a2 b2 (by omega), ?_⟩
    refine ⟨_, _, rfl, Int.mul_ne_zero hp hq, lt_up (add_lt (wide_lt a1 b2) (wide_lt b1 a2)) (by omega), lt_up (wide_lt a2 b2) (by omega), ?_⟩
    intro z H' s1 n1 h1
    rw [rq_add] at h1
    exact k z H' s1 n1 h1
  in #guard_msgs (pass all) in example : True := trivial

end
end KR
namespace KR
open PySem PySem.Spec PyProof.Rows L2
section
variable {P : Program} {w : World} {K : PySem.W.Frag} {mg : Str → Option Value} {base : Heap}
set_option Elab.async true in
theorem ok_p_difference (T : All K mg) : FnOk P w K mg base CX0 2 T.f_p_difference T.fd_p_difference ["one", "other"] (sp_w2 K (fun p q => p - q) (fun _ q => True)) := by
  refine T.d_p_difference.fn.ok sc_p_difference (fun vs H Q E h => ?_) (fun cdv A outer s H vs Q E hr h => ?_)
  · obtain ⟨x, y, p, q, rfl, _⟩ := h
    rfl
  · obtain ⟨x, y, p, q, rfl, hx, hy, zp, zq, hok, k⟩ := h
    have hx' : SqT K H x [.int p.num, .int (p.den : Int)] := hx
    have hy' : SqT K H y [.int q.num, .int (q.den : Int)] := hy
    refine ⟨_, (pss_one (ps_ret (pe_call (ok_p_frac_of T) hr (by rfl) T.d_p_frac_of.mg T.d_p_frac_of.fn.kp T.d_p_frac_of.b .nil pass0 (pa_cons (pe_op op_sub (pe_op op_mulX (pe_ix (ixT (K := K) rfl) (pv 0) pe_int (fun _ _ => rfl)) (pe_ix (ixT (K := K) rfl) (pv 1) pe_int (fun _ _ => rfl))) (pe_op op_mulX (pe_ix (ixT (K := K) rfl) (pv 1) pe_int (fun _ _ => rfl)) (pe_ix (ixT (K := K) rfl) (pv 0) pe_int (fun _ _ => rfl)))) (pa_cons (pe_op op_mulX (pe_ix (ixT (K := K) rfl) (pv 0) pe_int (fun _ _ => rfl)) (pe_ix (ixT (K := K) rfl) (pv 1) pe_int (fun _ _ => rfl))) pa_nil))))), ?_⟩
    obtain ⟨a1, a2⟩ := zp
    obtain ⟨b1, b2⟩ := zq
    have hp := den_ne' p
    have hq := den_ne' q
    refine ⟨_, rfl, x, _, 0, _, rfl, rfl, hx', at0, _, rfl, y, _, 1, _, rfl, rfl, hy', at1, _, _, rfl, rfl, mulZ a1 b2 (by omega), _, rfl, y, _, 0, _, rfl, rfl, hy', at0, _, rfl, x, _, 1, _, rfl, rfl, hx', at1, _, _, rfl, rfl, mulZ b1 a2 (by omega), _, _, rfl, rfl, ?_⟩
    refine ⟨_, rfl, x, _, 1, _, rfl, rfl, hx', at1, _, rfl, y, _, 1, _, rfl, rfl, hy', at1, _, _, rfl, rfl, mulZ a2 b2 (by omega), ?_⟩
    refine ⟨_, _, rfl, Int.mul_ne_zero hp hq, lt_up (sub_lt (wide_lt a1 b2) (wide_lt b1 a2)) (by omega), lt_up (wide_lt a2 b2) (by omega), ?_⟩
    intro z H' s1 n1 h1
    rw [rq_sub] at h1
    exact k z H' s1 n1 h1
  in #guard_msgs (pass all) in example : True := trivial

end
end KR
namespace KR
open PySem PySem.Spec PyProof.Rows L2
section
variable {P : Program} {w : World} {K : PySem.W.Frag} {mg : Str → Option Value} {base : Heap}
set_option Elab.async true in
theorem ok_p_product (T : All K mg) : FnOk P w K mg base CX0 2 T.f_p_product T.fd_p_product ["one", "other"] (sp_w2 K (fun p q => p * q) (fun _ q => True)) := by
  refine T.d_p_product.fn.ok sc_p_product (fun vs H Q E h => ?_) (fun cdv A outer s H vs Q E hr h => ?_)
  · obtain ⟨x, y, p, q, rfl, _⟩ := h
    rfl
  · obtain ⟨x, y, p, q, rfl, hx, hy, zp, zq, hok, k⟩ := h
    have hx' : SqT K H x [.int p.num, .int (p.den : Int)] := hx
    have hy' : SqT K H y [.int q.num, .int (q.den : Int)] := hy
    refine ⟨_, (pss_one (ps_ret (pe_call (ok_p_frac_of T) hr (by rfl) T.d_p_frac_of.mg T.d_p_frac_of.fn.kp T.d_p_frac_of.b .nil pass0 (pa_cons (pe_op op_mulX (pe_ix (ixT (K := K) rfl) (pv 0) pe_int (fun _ _ => rfl)) (pe_ix (ixT (K := K) rfl) (pv 1) pe_int (fun _ _ => rfl))) (pa_cons (pe_op op_mulX (pe_ix (ixT (K := K) rfl) (pv 0) pe_int (fun _ _ => rfl)) (pe_ix (ixT (K := K) rfl) (pv 1) pe_int (fun _ _ => rfl))) pa_nil))))), ?_⟩
    obtain ⟨a1, a2⟩ := zp
    obtain ⟨b1, b2⟩ := zq
    have hp := den_ne' p
    have hq := den_ne' q
    refine ⟨_, rfl, x, _, 0, _, rfl, rfl, hx', at0, _, rfl, y, _, 0, _, rfl, rfl, hy', at0, _, _, rfl, rfl, mulZ a1 b1 (by omega), ?_⟩
    refine ⟨_, rfl, x, _, 1, _, rfl, rfl, hx', at1, _, rfl, y, _, 1, _, rfl, rfl, hy', at1, _, _, rfl, rfl, mulZ a2 b2 (by omega), ?_⟩
    refine ⟨_, _, rfl, Int.mul_ne_zero hp hq, lt_up (wide_lt a1 b1) (by omega), lt_up (wide_lt a2 b2) (by omega), ?_⟩
    intro z H' s1 n1 h1
    rw [rq_mul] at h1
    exact k z H' s1 n1 h1
  in #guard_msgs (pass all) in example : True := trivial

end
end KR
namespace KR
open PySem PySem.Spec PyProof.Rows L2
section
variable {P : Program} {w : World} {K : PySem.W.Frag} {mg : Str → Option Value} {base : Heap}
set_option Elab.async true in
theorem ok_p_is_lesser (T : All K mg) : FnOk P w K mg base CX0 3 T.f_p_is_lesser T.fd_p_is_lesser ["one", "other"] (sp_lessB K) := by
  refine T.d_p_is_lesser.fn.ok sc_p_is_lesser (fun vs H Q E h => ?_) (fun cdv A outer s H vs Q E hr h => ?_)
  · obtain ⟨x, y, p, q, rfl, _⟩ := h
    rfl
  · obtain ⟨x, y, p, q, rfl, hx, hy, zp, zq, k⟩ := h
    have hx' : SqT K H x [.int p.num, .int (p.den : Int)] := hx
    have hy' : SqT K H y [.int q.num, .int (q.den : Int)] := hy
    refine ⟨_, (pss_one (ps_ret (pe_and (pe_call (okq_p_is_frac T) hr (by rfl) T.d_p_is_frac.mg T.d_p_is_frac.fn.kp T.d_p_is_frac.b .nil pass0 (pa_cons (pv 1) pa_nil)) (pe_one (pe_cmpR op_lt (pe_op op_mulX (pe_ix (ixT (K := K) rfl) (pv 0) pe_int (fun _ _ => rfl)) (pe_ix (ixT (K := K) rfl) (pv 1) pe_int (fun _ _ => rfl))) (pe_op op_mulX (pe_ix (ixT (K := K) rfl) (pv 1) pe_int (fun _ _ => rfl)) (pe_ix (ixT (K := K) rfl) (pv 0) pe_int (fun _ _ => rfl))) (nomark _)))))), ?_⟩
    refine ⟨_, rfl, y, q.num, (q.den : Int), rfl, hy, rat_low q, true, rfl, ite_bT rfl ?_⟩
    obtain ⟨a1, a2⟩ := zp
    obtain ⟨b1, b2⟩ := zq
    refine ⟨_, rfl, x, _, 0, _, rfl, rfl, hx', at0, _, rfl, y, _, 1, _, rfl, rfl, hy', at1, _, _, rfl, rfl, mulZ a1 b2 (by omega), ?_⟩
    refine ⟨_, rfl, y, _, 0, _, rfl, rfl, hy', at0, _, rfl, x, _, 1, _, rfl, rfl, hx', at1, _, _, rfl, rfl, mulZ b1 a2 (by omega), _, _, rfl, rfl, ?_⟩
    have e : decide (p.num * (q.den : Int) < q.num * (p.den : Int)) = decide (p < q) := by
      rw [decide_eq_decide]
      exact lt_cross p q
    show Q (.bl (decide (p.num * (q.den : Int) < q.num * (p.den : Int)))) H
    rw [e]
    exact k
  in #guard_msgs (pass all) in example : True := trivial

end
end KR
namespace KR
open PySem PySem.Spec PyProof.Rows L2
section
variable {P : Program} {w : World} {K : PySem.W.Frag} {mg : Str → Option Value} {base : Heap}
set_option Elab.async true in
theorem ok_p_water_at (T : All K mg) : FnOk P w K mg base CX0 2 T.f_p_water_at T.fd_p_water_at ["sugar", "mark"] (sp_w2 K (fun s u => wat s u) (fun _ u => u ≠ 0)) := by
  refine T.d_p_water_at.fn.ok sc_p_water_at (fun vs H Q E h => ?_) (fun cdv A outer s H vs Q E hr h => ?_)
  · obtain ⟨x, y, p, q, rfl, _⟩ := h
    rfl
  · obtain ⟨x, y, p, q, rfl, hx, hy, zp, zq, hok, k⟩ := h
    have hx' : SqT K H x [.int p.num, .int (p.den : Int)] := hx
    have hy' : SqT K H y [.int q.num, .int (q.den : Int)] := hy
    refine ⟨_, (pss_one (ps_ret (pe_call (ok_p_frac_of T) hr (by rfl) T.d_p_frac_of.mg T.d_p_frac_of.fn.kp T.d_p_frac_of.b .nil pass0 (pa_cons (pe_op op_mulX (pe_ix (ixT (K := K) rfl) (pv 0) pe_int (fun _ _ => rfl)) (pe_op op_sub (pe_ix (ixT (K := K) rfl) (pv 1) pe_int (fun _ _ => rfl)) (pe_ix (ixT (K := K) rfl) (pv 1) pe_int (fun _ _ => rfl)))) (pa_cons (pe_op op_mulX (pe_ix (ixT (K := K) rfl) (pv 0) pe_int (fun _ _ => rfl)) (pe_ix (ixT (K := K) rfl) (pv 1) pe_int (fun _ _ => rfl))) pa_nil))))), ?_⟩
    obtain ⟨a1, a2⟩ := zp
    obtain ⟨b1, b2⟩ := zq
    have hp := den_ne' p
    have hq := num_ne hok
    have z1 := sub_lt b2 b1
    refine ⟨_, rfl, x, _, 0, _, rfl, rfl, hx', at0, _, rfl, y, _, 1, _, rfl, rfl, hy', at1, _, rfl, y, _, 0, _, rfl, rfl, hy', at0, _, _, rfl, rfl, _, _, rfl, rfl, mulZ a1 z1 (by omega), ?_⟩
    refine ⟨_, rfl, x, _, 1, _, rfl, rfl, hx', at1, _, rfl, y, _, 0, _, rfl, rfl, hy', at0, _, _, rfl, rfl, mulZ a2 b1 (by omega), ?_⟩
    refine ⟨_, _, rfl, Int.mul_ne_zero hp hq, lt_up (wide_lt a1 z1) (by omega), lt_up (wide_lt a2 b1) (by omega), fun z H' s1 n1 h1 => ?_⟩
    have h1 : FrQ K H' z (rq (p.num * ((q.den : Int) - q.num)) (p.den * q.num)) := h1
    rw [rq_wat _ _ hok] at h1
    exact k z H' s1 n1 h1
  in #guard_msgs (pass all) in example : True := trivial

end
end KR
namespace KR
open PySem PySem.Spec PyProof.Rows L2
section
variable {P : Program} {w : World} {K : PySem.W.Frag} {mg : Str → Option Value} {base : Heap}
set_option Elab.async true in
theorem ok_p_boiled_down (T : All K mg) : FnOk P w K mg base CX0 4 T.f_p_boiled_down T.fd_p_boiled_down ["juice", "fire", "mark", "hours"] (sp_wboil K) := by
  refine T.d_p_boiled_down.fn.ok sc_p_boiled_down (fun vs H Q E h => ?_) (fun cdv A outer s H vs Q E hr h => ?_)
  · obtain ⟨j, mk, hr, f, s, w, u, h, rfl, _⟩ := h
    rfl
  · obtain ⟨j, mk, hh, f, s, w, u, h, rfl, hj, hu, hhr, za, zb, zu, zc, zl, zf, zd, hf, u0, q⟩ := h
    refine ⟨_, (pss_cons (ps_asg (pv 0) (pg_tupK (K := K) rfl rfl (pgs_cons (pg_name (i := 4) sc_p_boiled_down.nd rfl (by first | exact Or.inl rfl | exact Or.inr rfl)) (pgs_cons (pg_name (i := 5) sc_p_boiled_down.nd rfl (by first | exact Or.inl rfl | exact Or.inr rfl)) pgs_nil))))
      (pss_cons (ps_set (i := 6) sc_p_boiled_down.nd rfl (by first | exact Or.inl rfl | exact Or.inr rfl) (pe_call (ok_p_water_at T) (hr.mono (by decide)) (by rfl) T.d_p_water_at.mg T.d_p_water_at.fn.kp T.d_p_water_at.b .nil pass0 (pa_cons (pv 4) (pa_cons (pv 2) pa_nil))))
      (pss_cons (ps_if (pt_not (pt_val (pe_call (ok_p_is_lesser T) hr (by rfl) T.d_p_is_lesser.mg T.d_p_is_lesser.fn.kp T.d_p_is_lesser.b .nil pass0 (pa_cons (pv 6) (pa_cons (pv 5) pa_nil))))) (pss_one (ps_ret (pv 0))) pss_nil)
      (pss_cons (ps_set (i := 7) sc_p_boiled_down.nd rfl (by first | exact Or.inl rfl | exact Or.inr rfl) (pe_call (ok_p_difference T) (hr.mono (by decide)) (by rfl) T.d_p_difference.mg T.d_p_difference.fn.kp T.d_p_difference.b .nil pass0 (pa_cons (pv 5) (pa_cons (pe_call (ok_p_product T) (hr.mono (by decide)) (by rfl) T.d_p_product.mg T.d_p_product.fn.kp T.d_p_product.b .nil pass0 (pa_cons (pe_tupI (pa_cons (pv 1) (pa_cons pe_int pa_nil))) (pa_cons (pv 3) pa_nil))) pa_nil))))
      (pss_cons (ps_J (ps_if (pt_val (pe_call (ok_p_is_lesser T) hr (by rfl) T.d_p_is_lesser.mg T.d_p_is_lesser.fn.kp T.d_p_is_lesser.b .nil pass0 (pa_cons (pv 7) (pa_cons (pv 6) pa_nil)))) (pss_one (ps_set (i := 7) sc_p_boiled_down.nd rfl (by first | exact Or.inl rfl | exact Or.inr rfl) (pv 6))) pss_nil))
      (pss_one (ps_ret (pe_tupI (pa_cons (pv 4) (pa_cons (pv 7) pa_nil)))))))))), ?_⟩
    obtain ⟨x1, x2, hjj, h1, h2⟩ := hj
    refine ⟨_, rfl, j, _, rfl, hjj, rfl, _, _, rfl, _, _, rfl, rfl, ?_⟩
    refine ⟨_, rfl, _, rfl, x1, mk, s, u, rfl, h1, hu, za, zu, u0, fun l H1 s1 n1 hl => ?_⟩
    have hl' : FrQ K H1 l (wat s u) := hl
    refine ⟨_, rfl, _, rfl, l, x2, wat s u, w, rfl, hl', h2.same s1, zl, zb, _, rfl, ite2 (fun cc => ?_) (fun cc => ?_)⟩
    · have c1 : ¬ wat s u < w := by simpa using cc
      refine ⟨_, rfl, ?_⟩
      have e : boil s w f u h = w := by
        unfold boil
        rw [if_neg c1]
      refine q j H1 s1 ?_
      rw [e]
      exact JuQ.same ⟨x1, x2, hjj, h1, h2⟩ s1
    · have c1 : wat s u < w := by simpa using cc
      refine ⟨_, rfl, _, rfl, rfl, fun t H2 s2 n2 h2' => ?_⟩
      refine ⟨_, rfl, t, hh, (f : Rat), h, rfl, .int h2', hhr.same (s1.trans s2), (Sz.int hf (by decide) : Sz 14 (f : Rat)).up (by decide), zc, trivial, fun m H3 s3 n3 h3 => ?_⟩
      refine ⟨x2, m, w, (f : Rat) * h, rfl, h2.same (s1.trans (s2.trans s3)), h3, zb, zf, trivial, fun d H4 s4 n4 h4 => ?_⟩
      have s14 : Same H1 H4 := s2.trans (s3.trans s4)
      refine ⟨fun σ' H' => ∃ y : Addr, σ' = [some (.ref j), some (.int f), some (.ref mk), some (.ref hh), some (.ref x1), some (.ref x2), some (.ref l), some (.ref y)] ∧ FrQ K H' y (boil s w f u h) ∧ H' = H4, ?_, ?_⟩
      · rintro σ' H' ⟨y, rfl, hy, rfl⟩
        refine ⟨_, rfl, _, rfl, rfl, fun z H5 s5 n5 h5 => ?_⟩
        exact q z H5 (s1.trans (s14.trans s5)) (.new h5 (h1.same (s1.trans (s14.trans s5))) (hy.same s5))
      · refine ⟨_, rfl, _, rfl, d, l, _, _, rfl, h4, hl'.same s14, zd, zl, _, rfl, ite2 (fun c2 => ?_) (fun c2 => ?_)⟩
        · have c3 : w - (f : Rat) * h < wat s u := of_decide_eq_true c2
          refine ⟨_, rfl, l, rfl, ?_, rfl⟩
          unfold boil
          rw [if_pos c1, if_pos c3]
          exact hl'.same s14
        · have c3 : ¬ w - (f : Rat) * h < wat s u := of_decide_eq_false (Bool.eq_false_iff.mpr c2)
          refine ⟨d, rfl, ?_, rfl⟩
          unfold boil
          rw [if_pos c1, if_neg c3]
          exact h4
  in #guard_msgs (pass all) in example : True := trivial

end
end KR
namespace KR
open PySem PySem.Spec PyProof.Rows L2
section
variable {P : Program} {w : World} {K : PySem.W.Frag} {mg : Str → Option Value} {base : Heap}
set_option Elab.async true in
theorem ok_p_mixed (T : All K mg) : FnOk P w K mg base CX0 3 T.f_p_mixed T.fd_p_mixed ["one", "other"] (sp_jw2 K) := by
  refine T.d_p_mixed.fn.ok sc_p_mixed (fun vs H Q E h => ?_) (fun cdv A outer s H vs Q E hr h => ?_)
  · obtain ⟨x, y, s, w, s', w', rfl, _⟩ := h
    rfl
  · obtain ⟨x, y, s, w, s', w', rfl, ⟨a1, a2, hx, ha1, ha2⟩, ⟨b1, b2, hy, hb1, hb2⟩, za, zb, zc, zd, q⟩ := h
    refine ⟨_, (pss_one (ps_ret (pe_tupI (pa_cons (pe_call (ok_p_sum_of T) hr (by rfl) T.d_p_sum_of.mg T.d_p_sum_of.fn.kp T.d_p_sum_of.b .nil pass0 (pa_cons (pe_ix (ixT (K := K) rfl) (pv 0) pe_int (fun _ _ => rfl)) (pa_cons (pe_ix (ixT (K := K) rfl) (pv 1) pe_int (fun _ _ => rfl)) pa_nil))) (pa_cons (pe_call (ok_p_sum_of T) hr (by rfl) T.d_p_sum_of.mg T.d_p_sum_of.fn.kp T.d_p_sum_of.b .nil pass0 (pa_cons (pe_ix (ixT (K := K) rfl) (pv 0) pe_int (fun _ _ => rfl)) (pa_cons (pe_ix (ixT (K := K) rfl) (pv 1) pe_int (fun _ _ => rfl)) pa_nil))) pa_nil))))), ?_⟩
    refine ⟨_, rfl, x, _, 0, _, rfl, rfl, hx, at0, _, rfl, y, _, 0, _, rfl, rfl, hy, at0, a1, b1, s, s', rfl, ha1, hb1, za, zc, trivial, fun z1 H1 s1 n1 h1 => ?_⟩
    refine ⟨_, rfl, x, _, 1, _, rfl, rfl, Same.tup s1 hx, at1, _, rfl, y, _, 1, _, rfl, rfl, Same.tup s1 hy, at1, a2, b2, w, w', rfl, ha2.same s1, hb2.same s1, zb, zd, trivial, fun z2 H2 s2 n2 h2 => ?_⟩
    refine ⟨rfl, fun z H3 s3 n3 h3 => ?_⟩
    exact q z H3 (s1.trans (s2.trans s3)) (.new h3 (h1.same (s2.trans s3)) (h2.same s3))
  in #guard_msgs (pass all) in example : True := trivial

end
end KR
namespace KR
open PySem PySem.Spec PyProof.Rows L2
section
variable {P : Program} {w : World} {K : PySem.W.Frag} {mg : Str → Option Value} {base : Heap}
set_option Elab.async true in
theorem ok_p_volume_of (T : All K mg) : FnOk P w K mg base CX0 3 T.f_p_volume_of T.fd_p_volume_of ["juice"] (sp_volW K) := by
  refine T.d_p_volume_of.fn.ok sc_p_volume_of (fun vs H Q E h => ?_) (fun cdv A outer s H vs Q E hr h => ?_)
  · obtain ⟨x, s, w, rfl, _⟩ := h
    rfl
  · obtain ⟨x, s, w, rfl, ⟨a1, a2, hx, ha1, ha2⟩, za, zb, q⟩ := h
    refine ⟨_, (pss_one (ps_ret (pe_call (ok_p_sum_of T) hr (by rfl) T.d_p_sum_of.mg T.d_p_sum_of.fn.kp T.d_p_sum_of.b .nil pass0 (pa_cons (pe_ix (ixT (K := K) rfl) (pv 0) pe_int (fun _ _ => rfl)) (pa_cons (pe_ix (ixT (K := K) rfl) (pv 0) pe_int (fun _ _ => rfl)) pa_nil))))), ?_⟩
    refine ⟨_, rfl, x, _, 0, _, rfl, rfl, hx, at0, _, rfl, x, _, 1, _, rfl, rfl, hx, at1, a1, a2, s, w, rfl, ha1, ha2, za, zb, trivial, fun z1 H1 s1 n1 h1 => ?_⟩
    exact q z1 H1 s1 h1
  in #guard_msgs (pass all) in example : True := trivial

end
end KR
namespace KR
open PySem PySem.Spec PyProof.Rows L2
section
variable {P : Program} {w : World} {K : PySem.W.Frag} {mg : Str → Option Value} {base : Heap}
def sp_m_share (K : PySem.W.Frag) : Sp := fun vs H Q _ => ∃ (x y : Addr) (s w t : Rat), vs = [.ref x, .ref y] ∧ JuQ K H x s w ∧ FrQ K H y t ∧ Big s ∧ Big w ∧ Big t ∧ ∀ z H', Same H H' → JuQ K H' z (s * t) (w * t) → Q (.ref z) H'
set_option Elab.async true in
theorem ok_p_share_of (T : All K mg) : FnOk P w K mg base CX0 3 T.f_p_share_of T.fd_p_share_of ["juice", "share"] (sp_m_share K) := by
  refine T.d_p_share_of.fn.ok sc_p_share_of (fun vs H Q E h => ?_) (fun cdv A outer s H vs Q E hr h => ?_)
  · obtain ⟨x, y, s, w, t, rfl, _⟩ := h
    rfl
  · obtain ⟨x, y, s, w, t, rfl, ⟨a1, a2, hx, ha1, ha2⟩, hy, za, zb, zc, q⟩ := h
    refine ⟨_, (pss_one (ps_ret (pe_tupI (pa_cons (pe_call (ok_p_product T) hr (by rfl) T.d_p_product.mg T.d_p_product.fn.kp T.d_p_product.b .nil pass0 (pa_cons (pe_ix (ixT (K := K) rfl) (pv 0) pe_int (fun _ _ => rfl)) (pa_cons (pv 1) pa_nil))) (pa_cons (pe_call (ok_p_product T) hr (by rfl) T.d_p_product.mg T.d_p_product.fn.kp T.d_p_product.b .nil pass0 (pa_cons (pe_ix (ixT (K := K) rfl) (pv 0) pe_int (fun _ _ => rfl)) (pa_cons (pv 1) pa_nil))) pa_nil))))), ?_⟩
    refine ⟨_, rfl, x, _, 0, _, rfl, rfl, hx, at0, _, rfl, a1, y, s, t, rfl, ha1, hy, za, zc, trivial, fun z1 H1 s1 n1 h1 => ?_⟩
    refine ⟨_, rfl, x, _, 1, _, rfl, rfl, Same.tup s1 hx, at1, _, rfl, a2, y, w, t, rfl, ha2.same s1, hy.same s1, zb, zc, trivial, fun z2 H2 s2 n2 h2 => ?_⟩
    refine ⟨rfl, fun z H3 s3 n3 h3 => ?_⟩
    exact q z H3 (s1.trans (s2.trans s3)) (.new h3 ((show FrQ K H1 z1 (s * t) from h1).same (s2.trans s3)) ((show FrQ K H2 z2 (w * t) from h2).same s3))
  in #guard_msgs (pass all) in example : True := trivial

end
end KR
namespace KR
open PySem PySem.Spec PyProof.Rows L2
section
variable {P : Program} {w : World} {K : PySem.W.Frag} {mg : Str → Option Value} {base : Heap}
def sp_m_rest (K : PySem.W.Frag) : Sp := fun vs H Q _ => ∃ (x y : Addr) (s w t : Rat), vs = [.ref x, .ref y] ∧ JuQ K H x s w ∧ FrQ K H y t ∧ Big s ∧ Big w ∧ Big t ∧ Big (1 - t) ∧ ∀ z H', Same H H' → JuQ K H' z (s * (1 - t)) (w * (1 - t)) → Q (.ref z) H'
set_option Elab.async true in
theorem ok_p_rest_of (T : All K mg) : FnOk P w K mg base CX0 4 T.f_p_rest_of T.fd_p_rest_of ["juice", "share"] (sp_m_rest K) := by
  refine T.d_p_rest_of.fn.ok sc_p_rest_of (fun vs H Q E h => ?_) (fun cdv A outer s H vs Q E hr h => ?_)
  · obtain ⟨x, y, s, w, t, rfl, _⟩ := h
    rfl
  · obtain ⟨x, y, s, w, t, rfl, hx, hy, za, zb, zc, zd, q⟩ := h
    refine ⟨_, (pss_one (ps_ret (pe_call (ok_p_share_of T) hr (by rfl) T.d_p_share_of.mg T.d_p_share_of.fn.kp T.d_p_share_of.b .nil pass0 (pa_cons (pv 0) (pa_cons (pe_call (ok_p_difference T) (hr.mono (by decide)) (by rfl) T.d_p_difference.mg T.d_p_difference.fn.kp T.d_p_difference.b .nil pass0 (pa_cons (pe_glob (v := .ref T.C_ONE) rfl T.g_ONE rfl) (pa_cons (pv 1) pa_nil))) pa_nil))))), ?_⟩
    refine ⟨_, rfl, _, rfl, T.C_ONE, y, 1, t, rfl, T.q_ONE H, hy, Sz.int (z := 1) (by decide) (by decide), zc, trivial, fun z1 H1 s1 n1 h1 => ?_⟩
    exact ⟨x, z1, s, w, 1 - t, rfl, hx.same s1, h1, za, zb, zd, fun z H2 s2 hz => q z H2 (s1.trans s2) hz⟩
  in #guard_msgs (pass all) in example : True := trivial

end
end KR
namespace KR
open PySem PySem.Spec PyProof.Rows L2
section
variable {P : Program} {w : World} {K : PySem.W.Frag} {mg : Str → Option Value} {base : Heap}
def sp_m_need (K : PySem.W.Frag) (CS : Addr) : Sp := fun vs H Q E => ∃ (a : Addr) (t : Rat), vs = [.ref a] ∧ FrQ K H a t ∧ (¬ ShOk t → Rf CS "NoShare" (.ref a) H E) ∧ (ShOk t → Q .non H)
set_option Elab.async true in
theorem ok_p_need_share (T : All K mg) : FnOk P w K mg base (L2.CX P w) 3 T.f_p_need_share T.fd_p_need_share ["share"] (sp_m_need K T.C_NoShare) := by
  refine T.d_p_need_share.fn.okX sc_p_need_share (fun vs H Q E h => ?_) (fun cdv A outer s H vs Q E hr h => ?_)
  · obtain ⟨a, t, rfl, _⟩ := h
    rfl
  · obtain ⟨a, t, rfl, ha, w1, w2⟩ := h
    refine ⟨_, (pss_cons (ps_asg (pv 0) (pg_tupK (K := K) rfl rfl (pgs_cons (pg_name (i := 1) sc_p_need_share.nd rfl (by first | exact Or.inl rfl | exact Or.inr rfl)) (pgs_cons (pg_name (i := 2) sc_p_need_share.nd rfl (by first | exact Or.inl rfl | exact Or.inr rfl)) pgs_nil))))
      (pss_one (ps_if (pt_not (pt_chain3 op_lt op_le op_le pe_int (pv 1) (pv 2) (pe_glob (v := .int 12) rfl T.c_MOST_BOTTOM ⟨_, rfl⟩))) (pss_one (ps_raise rfl (takes_of rfl rfl rfl rfl) (pmk_oex T.O_NoShare T.i_NoShare T.tI_NoShare (ok_init_NoShare T) (hr.mono (by decide)) T.bI_NoShare .nil pass0 rfl T.g_NoShare (by exact (pa_cons (pv 0) pa_nil))))) pss_nil))), ?_⟩
    have ha' : SqT K H a [.int t.num, .int (t.den : Int)] := ha
    refine ⟨_, rfl, a, _, rfl, ha', rfl, _, _, rfl, _, _, rfl, rfl, ?_⟩
    have bad : ¬ ShOk t → tMkO T.C_NoShare (sp_initX T.C_NoShare (Str.ofString "NoShare")) [] (tCons (tVar 0) tNil) [some (V.ref a), some (V.int t.num), some (V.int (t.den : Int))] H (fun cls d H' => E cls d H') := fun no => by
      refine ⟨_, rfl, by show 1 ≤ 1000; decide, fun b hb => ⟨b, (.ref a), rfl, upd_same, fun d hd hne => ?_⟩⟩
      rw [upd_ne hne] at hd
      refine ⟨rfl, d, (wh "NoShare" (.ref a)), upd_same, by rw [upd_ne hne, upd_same], hd, ?_⟩
      exact w1 no d _ (raised_keeps (o1 := exo b T.C_NoShare none) (o2 := exd d (wh "NoShare" (.ref a))) (o3 := exo b T.C_NoShare (some d)) (o4 := .xd (wh "NoShare" (.ref a))) hb hd) upd_same
    refine ⟨_, rfl, _, _, rfl, rfl, _, rfl, ?_⟩
    by_cases c1 : (0 : Int) < t.num
    case neg =>
      rw [decide_eq_false c1]
      exact ⟨_, rfl, bad fun z => c1 z.1⟩
    rw [decide_eq_true c1]
    refine ⟨_, rfl, _, _, rfl, rfl, _, rfl, ?_⟩
    by_cases c2 : t.num ≤ (t.den : Int)
    case neg =>
      rw [decide_eq_false c2]
      exact ⟨_, rfl, bad fun z => c2 z.2.1⟩
    rw [decide_eq_true c2]
    refine ⟨_, _, rfl, rfl, _, rfl, ?_⟩
    by_cases c3 : (t.den : Int) ≤ 12
    case neg =>
      rw [decide_eq_false c3]
      exact bad fun z => c3 z.2.2
    rw [decide_eq_true c3]
    exact w2 ⟨c1, c2, c3⟩
  in #guard_msgs (pass all) in example : True := trivial

end
end KR
namespace KR
open PySem PySem.Spec PyProof.Rows L2
section
variable {P : Program} {w : World} {K : PySem.W.Frag} {mg : Str → Option Value} {base : Heap}
set_option Elab.async true in
theorem ok_p_need_some (T : All K mg) : FnOk P w K mg base (L2.CX P w) 3 T.f_p_need_some T.fd_p_need_some ["name", "juice"] (sp_need_some K T.C_Empty) := by
  refine T.d_p_need_some.fn.okX sc_p_need_some (fun vs H Q E h => ?_) (fun cdv A outer s H vs Q E hr h => ?_)
  · obtain ⟨v, a, s, w, rfl, _⟩ := h
    rfl
  · obtain ⟨v, a, s, w, rfl, ha, w1, w2⟩ := h
    refine ⟨_, (pss_one (ps_if (pt_cmpR (eqDK (K := K) rfl hr.units) (pv 1) (pe_glob (v := .ref T.C_NOTHING) rfl T.g_NOTHING rfl) (nomark _)) (pss_one (ps_raise rfl (takes_of rfl rfl rfl rfl) (pmk_oex T.O_Empty T.i_Empty T.tI_Empty (ok_init_Empty T) (hr.mono (by decide)) T.bI_Empty .nil pass0 rfl T.g_Empty (by exact (pa_cons (pv 0) pa_nil))))) pss_nil)), ?_⟩
    have e : PyData.eqv (dj s w) (dj 0 0) = decide (s = 0 ∧ w = 0) := by
      show (PyData.eqv (dq s) (dq 0) && (PyData.eqv (dq w) (dq 0) && true)) = _
      rw [eqv_dq, eqv_dq, Bool.and_true, Bool.decide_and]
    refine ⟨_, rfl, dj s w, dj 0 0, ha.dp, (NOTH T.q_NOTHING).dp, rfl, rfl, _, rfl, ?_⟩
    rw [e]
    by_cases c : s = 0 ∧ w = 0
    · rw [decide_eq_true c]
      refine iteT ?_
      refine ⟨_, rfl, by show 1 ≤ 1000; decide, fun b hb => ⟨b, v, rfl, upd_same, fun d hd hne => ?_⟩⟩
      rw [upd_ne hne] at hd
      refine ⟨rfl, d, (wh "Empty" v), upd_same, by rw [upd_ne hne, upd_same], hd, ?_⟩
      exact w1 c d _ (raised_keeps (o1 := exo b T.C_Empty none) (o2 := exd d (wh "Empty" v)) (o3 := exo b T.C_Empty (some d)) (o4 := .xd (wh "Empty" v)) hb hd) upd_same
    · rw [decide_eq_false c]
      exact iteF (w2 c H (Same.refl _))
  in #guard_msgs (pass all) in example : True := trivial

end
end KR
namespace KR
open PySem PySem.Spec PyProof.Rows L2
section
variable {P : Program} {w : World} {K : PySem.W.Frag} {mg : Str → Option Value} {base : Heap}
set_option Elab.async true in
theorem ok_p_poured_into (T : All K mg) : FnOk P w K mg base (L2.CX P w) 5 T.f_p_poured_into T.fd_p_poured_into ["name", "room", "juice", "more"] (sp_poured_into K T.C_NoRoom) := by
  refine T.d_p_poured_into.fn.okX sc_p_poured_into (fun vs H Q E h => ?_) (fun cdv A outer s H vs Q E hr h => ?_)
  · obtain ⟨v, r, a, b, s, w, s', w', rfl, _⟩ := h
    rfl
  · obtain ⟨v, r, a, b, s, w, s', w', rfl, ha, hb, z1, z2, z3, z4, z5, z6, z7, z8, w1, w2⟩ := h
    refine ⟨_, (pss_cons (ps_set (i := 4) sc_p_poured_into.nd rfl (by first | exact Or.inl rfl | exact Or.inr rfl) (pe_call (ok_p_mixed T) (hr.mono (by decide)) (by rfl) T.d_p_mixed.mg T.d_p_mixed.fn.kp T.d_p_mixed.b .nil pass0 (pa_cons (pv 2) (pa_cons (pv 3) pa_nil))))
      (pss_cons (ps_if (pt_val (pe_call (ok_p_is_lesser T) (hr.mono (by decide)) (by rfl) T.d_p_is_lesser.mg T.d_p_is_lesser.fn.kp T.d_p_is_lesser.b .nil pass0 (pa_cons (pe_tupI (pa_cons (pv 1) (pa_cons pe_int pa_nil))) (pa_cons (pe_call (ok_p_volume_of T) (hr.mono (by decide)) (by rfl) T.d_p_volume_of.mg T.d_p_volume_of.fn.kp T.d_p_volume_of.b .nil pass0 (pa_cons (pv 4) pa_nil)) pa_nil)))) (pss_one (ps_raise rfl (takes_of rfl rfl rfl rfl) (pmk_oex T.O_NoRoom T.i_NoRoom T.tI_NoRoom (ok_init_NoRoom T) (hr.mono (by decide)) T.bI_NoRoom .nil pass0 rfl T.g_NoRoom (by exact (pa_cons (pv 0) pa_nil))))) pss_nil)
      (pss_one (ps_ret (pv 4))))), ?_⟩
    refine ⟨_, rfl, _, rfl, a, b, s, w, s', w', rfl, ha, hb, z1, z2, z3, z4, fun z H1 s1 h1 => ?_⟩
    refine ⟨_, rfl, rfl, fun tp H2 s2 n2 h2 => ?_⟩
    refine ⟨_, rfl, z, s + s', w + w', rfl, h1.same s2, z5, z6, fun y H3 s3 h3 => ?_⟩
    refine ⟨tp, y, (r : Rat), _, rfl, FrQ.int (s3 _ _ h2), h3, z8, z7, _, rfl, ?_⟩
    have sm := s1.trans (s2.trans s3)
    by_cases c : (r : Rat) < s + s' + (w + w')
    · rw [decide_eq_true c]
      refine iteT ?_
      refine ⟨_, rfl, by show 1 ≤ 1000; decide, fun b hb => ⟨b, v, rfl, upd_same, fun d hd hne => ?_⟩⟩
      rw [upd_ne hne] at hd
      refine ⟨rfl, d, (wh "NoRoom" v), upd_same, by rw [upd_ne hne, upd_same], hd, ?_⟩
      exact w1 c d _ (sm.trans (raised_keeps (o1 := exo b T.C_NoRoom none) (o2 := exd d (wh "NoRoom" v)) (o3 := exo b T.C_NoRoom (some d)) (o4 := .xd (wh "NoRoom" v)) hb hd)) upd_same
    · rw [decide_eq_false c]
      refine iteF ?_
      exact ⟨_, rfl, w2 c z H3 sm (h1.same (s2.trans s3))⟩
  in #guard_msgs (pass all) in example : True := trivial

end
end KR
namespace KR
open PySem PySem.Spec PyProof.Rows L2
section
variable {P : Program} {w : World} {K : PySem.W.Frag} {mg : Str → Option Value} {base : Heap}
set_option Elab.async true in
theorem ok_Kettle_init (T : All K mg) : FnOk P w K mg base CX0 1 T.f_Kettle_init T.fd_Kettle_init ["self", "room", "fire", "mark"] (sp_Kettle_init K T.C_Kettle) := by
  refine T.F_Kettle_init.ok sc_Kettle_init (fun vs H Q E h => ?_) (fun cdv A outer s H vs Q E hr h => ?_)
  · obtain ⟨c, dx, r, f, mv, u, rfl, _⟩ := h
    rfl
  · obtain ⟨c, dx, r, f, mv, u, rfl, hc, hd, q⟩ := h
    refine ⟨_, (pss_cons (ps_fld (pv 0) (pv 1) rfl)
      (pss_cons (ps_fld (pv 0) (pv 2) rfl)
      (pss_cons (ps_fld (pv 0) (pv 3) rfl)
      (pss_cons (ps_fld (pv 0) (pe_glob (v := .ref T.C_NOTHING) rfl T.g_NOTHING rfl) rfl)
      (pss_one (ps_fld (pv 0) pe_bl rfl)))))), ?_⟩
    refine ⟨_, rfl, _, rfl, c, T.C_Kettle, dx, [], rfl, hc, T.L_Kettle, T.n_Kettle_room, (by show 0 < 1000; decide), ?_⟩
    refine ⟨_, rfl, _, rfl, c, T.C_Kettle, dx, _, rfl, upd_same, T.L_Kettle, T.n_Kettle_fire, (by show 1 < 1000; decide), ?_⟩
    refine ⟨_, rfl, _, rfl, c, T.C_Kettle, dx, _, rfl, upd_same, T.L_Kettle, T.n_Kettle_mark, (by show 2 < 1000; decide), ?_⟩
    refine ⟨_, rfl, c, T.C_Kettle, dx, _, rfl, upd_same, T.L_Kettle, T.n_Kettle_juice, (by show 3 < 1000; decide), ?_⟩
    refine ⟨_, rfl, c, T.C_Kettle, dx, _, rfl, upd_same, T.L_Kettle, T.n_Kettle_at_work, (by show 4 < 1000; decide), ?_⟩
    have of : Off K (· = c) H _ := (((((Off.refl (K := K) (R := (· = c)) (H := H)).write rfl hc .ins (o2 := (.ins T.C_Kettle dx (putF "room" (.int r) [])))).write rfl hc .ins (o2 := (.ins T.C_Kettle dx (putF "fire" (.int f) (putF "room" (.int r) []))))).write rfl hc .ins (o2 := (.ins T.C_Kettle dx (putF "mark" mv (putF "fire" (.int f) (putF "room" (.int r) [])))))).write rfl hc .ins (o2 := (.ins T.C_Kettle dx (putF "juice" (.ref T.C_NOTHING) (putF "mark" mv (putF "fire" (.int f) (putF "room" (.int r) []))))))).write rfl hc .ins (o2 := (.ins T.C_Kettle dx (kf r f mv (.ref T.C_NOTHING) true)))
    exact q _ ⟨dx, mv, .ref T.C_NOTHING, upd_same, hd.tk of.tk, ⟨_, rfl, NOTH T.q_NOTHING⟩⟩ of
  in #guard_msgs (pass all) in example : True := trivial

end
end KR
namespace KR
open PySem PySem.Spec PyProof.Rows L2
section
variable {P : Program} {w : World} {K : PySem.W.Frag} {mg : Str → Option Value} {base : Heap}
set_option Elab.async true in
theorem ok_Kettle_boil (T : All K mg) : FnOk P w K mg base CX0 5 T.f_Kettle_boil T.fd_Kettle_boil ["self", "hours"] (sp_Kettle_boil K T.C_Kettle) := by
  refine T.F_Kettle_boil.ok sc_Kettle_boil (fun vs H Q E h => ?_) (fun cdv A outer s H vs Q E hr h => ?_)
  · obtain ⟨c, k, h, rfl, _⟩ := h
    rfl
  · obtain ⟨c, k, h, rfl, hc, kb, q⟩ := h
    refine ⟨_, (pss_cons (ps_set (i := 2) sc_Kettle_boil.nd rfl (by first | exact Or.inl rfl | exact Or.inr rfl) (pe_ix (ixT (K := K) rfl) (pe_fldK (K := K) rfl (pv 0) rfl) pe_int (fun _ _ => rfl)))
      (pss_cons (ps_fld (pv 0) (pe_call (ok_p_boiled_down T) hr (by rfl) T.d_p_boiled_down.mg T.d_p_boiled_down.fn.kp T.d_p_boiled_down.b .nil pass0 (pa_cons (pe_fldK (K := K) rfl (pv 0) rfl) (pa_cons (pe_fldK (K := K) rfl (pv 0) rfl) (pa_cons (pe_fldK (K := K) rfl (pv 0) rfl) (pa_cons (pe_tupI (pa_cons (pv 1) (pa_cons pe_int pa_nil))) pa_nil))))) rfl)
      (pss_one (ps_ret (pe_call (ok_p_difference T) (hr.mono (by decide)) (by rfl) T.d_p_difference.mg T.d_p_difference.fn.kp T.d_p_difference.b .nil pass0 (pa_cons (pv 2) (pa_cons (pe_ix (ixT (K := K) rfl) (pe_fldK (K := K) rfl (pv 0) rfl) pe_int (fun _ _ => rfl)) pa_nil))))))), ?_⟩
    obtain ⟨dx, mv, jv, h1, ⟨m, rfl, hm⟩, j, rfl, hj⟩ := hc
    obtain ⟨sa, wa, hjj, hs, hw⟩ := id hj
    refine ⟨_, rfl, c, T.C_Kettle, dx, _, _, rfl, h1, T.L_Kettle, T.n_Kettle_juice, rfl, j, _, 1, _, rfl, rfl, hjj, at1, ?_⟩
    refine ⟨_, rfl, c, T.C_Kettle, dx, _, _, rfl, h1, T.L_Kettle, T.n_Kettle_juice, rfl, ?_⟩
    refine ⟨_, rfl, c, T.C_Kettle, dx, _, _, rfl, h1, T.L_Kettle, T.n_Kettle_fire, rfl, ?_⟩
    refine ⟨_, rfl, c, T.C_Kettle, dx, _, _, rfl, h1, T.L_Kettle, T.n_Kettle_mark, rfl, ?_⟩
    refine ⟨_, rfl, rfl, fun hh H1 s1 n1 k1 => ?_⟩
    refine ⟨j, m, hh, k.fire, k.s, k.w, k.mark, ((h : Int) : Rat), rfl, hj.same s1, hm.same s1, FrQ.int k1, kb.s, kb.w, kb.u, kb.hb, kb.l, kb.fh, kb.d, kb.f, kb.u0, fun z H2 s2 hz => ?_⟩
    have s12 := s1.trans s2
    refine ⟨_, rfl, c, T.C_Kettle, dx, _, rfl, s12 _ _ h1, T.L_Kettle, T.n_Kettle_juice, (by show 5 < 1000; decide), ?_⟩
    have of : Off K (· = c) H _ := (Off.same s12).write rfl h1 .ins (o2 := (.ins T.C_Kettle dx (kf k.room k.fire (.ref m) (.ref z) k.on)))
    have o2 : TK K H2 _ := .upd (s12 _ _ h1) (fun _ z => by cases z) (fun _ _ z => by cases z) (o2 := (.ins T.C_Kettle dx (kf k.room k.fire (.ref m) (.ref z) k.on)))
    obtain ⟨sz, wz, hzz, hzs, hzw⟩ := id (hz.tk o2)
    refine ⟨_, rfl, _, rfl, c, T.C_Kettle, dx, _, _, rfl, upd_same, T.L_Kettle, T.n_Kettle_juice, rfl, z, _, 1, _, rfl, rfl, hzz, at1, ?_⟩
    refine ⟨wa, wz, k.w, _, rfl, hw.tk of.tk, hzw, kb.w, kb.b, trivial, fun a H4 s4 n4 h4 => ?_⟩
    exact q a H4 ⟨dx, .ref m, .ref z, s4 _ _ upd_same, ⟨m, rfl, (hm.tk of.tk).same s4⟩, z, rfl, (hz.tk o2).same s4⟩ h4 (of.seq (.same s4))
  in #guard_msgs (pass all) in example : True := trivial

end
end KR
namespace KR
open PySem PySem.Spec PyProof.Rows L2
section
variable {P : Program} {w : World} {K : PySem.W.Frag} {mg : Str → Option Value} {base : Heap}
set_option Elab.async true in
theorem ok_SameRow_init (T : All K mg) : FnOk P w K mg base CX0 1 T.f_SameRow_init T.fd_SameRow_init ["self", "row"] (sp_SameRow_init T.C_SameRow T.C_Row) := by
  refine T.F_SameRow_init.ok sc_SameRow_init (fun vs H Q E h => ?_) (fun cdv A outer s H vs Q E hr h => ?_)
  · obtain ⟨x, dx, r, dr, k, m, rfl, _⟩ := h
    rfl
  · obtain ⟨x, dx, r, dr, k, m, rfl, hx, hrr, q⟩ := h
    refine ⟨_, (pss_cons (ps_fld (pv 0) (pe_fldK (K := K) rfl (pv 1) rfl) rfl)
      (pss_one (ps_fld (pv 0) (pe_fldK (K := K) rfl (pv 1) rfl) rfl))), ?_⟩
    have ne : r ≠ x := ne_of hrr hx (fun z => by have y := (HO.ins.inj z).2.2; cases y)
    refine ⟨_, rfl, r, T.C_Row, dr, _, _, rfl, hrr, T.L_Row, T.n_Row_kettles, rfl, _, rfl, x, T.C_SameRow, dx, [], rfl, hx, T.L_SameRow, T.n_SameRow_kettles, (by show 0 < 1000; decide), ?_⟩
    refine ⟨_, rfl, r, T.C_Row, dr, _, _, rfl, (by rw [upd_ne ne]; exact hrr), T.L_Row, T.n_Row_moulds, rfl, _, rfl, x, T.C_SameRow, dx, _, rfl, upd_same, T.L_SameRow, T.n_SameRow_moulds, (by show 1 < 1000; decide), ?_⟩
    exact q _ (Fr.put (Fr.put .refl)) ⟨_, upd_same, .ins⟩
  in #guard_msgs (pass all) in example : True := trivial

end
end KR
namespace KR
open PySem PySem.Spec PyProof.Rows L2
section
variable {P : Program} {w : World} {K : PySem.W.Frag} {mg : Str → Option Value} {base : Heap}
set_option Elab.async true in
theorem ok_Kettles_init (T : All K mg) : FnOk P w K mg base CX0 4 T.f_Kettles_init T.fd_Kettles_init ["self", "row"] (sp_Kettles_init K T.C_Kettles T.C_Kettle T.C_Row) := by
  refine T.F_Kettles_init.ok sc_Kettles_init (fun vs H Q E h => ?_) (fun cdv A outer s H vs Q E hr h => ?_)
  · obtain ⟨p, dx, r, dr, k, m, xs, rs, rfl, _⟩ := h
    rfl
  · obtain ⟨p, dx, r, dr, k, m, xs, rs, rfl, hp, hrr, hm, len, hx, nd, l9, q⟩ := h
    refine ⟨_, (pss_cons (ps_fld (pv 0) (pe_make T.M_SameRow (ok_SameRow_init T) (hr.mono (by decide)) (by rfl) T.g_SameRow T.b_SameRow_init .nil pass0 (pa_cons (pv 1) pa_nil)) rfl)
      (pss_cons (ps_fld (pv 0) (pe_dc (own := [("name", 2), ("room", 3), ("fire", 4), ("mark", 5)]) (g := gTup K 4 (gCons (gName 2) (gCons (gName 3) (gCons (gName 4) (gCons (gName 5) gNil))))) (tt := tYes) (by rfl) sc_Kettles_init.nd (pi_tupK (K := K) rfl (pe_fldK (K := K) rfl (pv 1) rfl)) (blkOk_by (own := [("name", 2), ("room", 3), ("fire", 4), ("mark", 5)]) (N := ["self", "row", "name", "room", "fire", "mark"]) (sc := defScope s_Kettles_init) (by decide +kernel)) (fun _ _ _ _ _ => (pg_tupK (K := K) rfl rfl (pgs_cons (pg_name (i := 2) sc_Kettles_init.nd rfl (by first | exact Or.inl rfl | exact Or.inr rfl)) (pgs_cons (pg_name (i := 3) sc_Kettles_init.nd rfl (by first | exact Or.inl rfl | exact Or.inr rfl)) (pgs_cons (pg_name (i := 4) sc_Kettles_init.nd rfl (by first | exact Or.inl rfl | exact Or.inr rfl)) (pgs_cons (pg_name (i := 5) sc_Kettles_init.nd rfl (by first | exact Or.inl rfl | exact Or.inr rfl)) pgs_nil)))))) (fun _ _ _ _ _ => pts_nil) (fun _ _ _ _ _ => (pv 2)) (fun _ _ _ _ _ => (pe_make T.M_Kettle (ok_Kettle_init T) (hr.mono (by decide)) (by rfl) T.g_Kettle T.b_Kettle_init .nil pass0 (pa_cons (pv 3) (pa_cons (pv 4) (pa_cons (pv 5) pa_nil)))))) rfl)
      (pss_cons (ps_fld (pv 0) pe_int rfl)
      (pss_one (ps_fld (pv 0) (pe_glob (v := .ref T.C_NOUGHT) rfl T.g_NOUGHT rfl) rfl))))), ?_⟩
    have nrp : r ≠ p := ne_of hrr hp (fun z => by have y := (HO.ins.inj z).2.2; cases y)
    refine ⟨_, rfl, fun a da na nda ne => ?_⟩
    have s1 : Same H (upd (upd H da (.own a)) a (.ins T.C_SameRow da [])) := make_same na nda
    refine ⟨a, da, r, dr, k, m, rfl, upd_same, s1 _ _ hrr, fun H2 f2 hch => ⟨rfl, ?_⟩⟩
    have s2 : Same H H2 := fun b o e => f2 b o (ne_of_none e na) (s1 _ _ e)
    refine ⟨_, rfl, p, T.C_Kettles, dx, [], rfl, s2 _ _ hp, T.L_Kettles, T.n_Kettles__row, (by show 0 < 1000; decide), ?_⟩
    have o3 : Off K (· = p) H (upd H2 p (.ins T.C_Kettles dx [("_row", .ref a)])) := (Off.same s2).write rfl hp .ins
    have hp3 : (upd H2 p (.ins T.C_Kettles dx [("_row", .ref a)])) p = some (.ins T.C_Kettles dx [("_row", .ref a)]) := upd_same
    change (tSeq _ _) _ _ (upd H2 p (.ins T.C_Kettles dx [("_row", .ref a)]))
    generalize upd H2 p (.ins T.C_Kettles dx [("_row", .ref a)]) = J at o3 hp3
    refine ⟨_, rfl, r, T.C_Row, dr, _, _, rfl, o3.ins nrp hrr, T.L_Row, T.n_Row_kettles, rfl, k, rfl, ⟨_, o3.tk _ _ hm⟩, fun D hD => ?_⟩
    have hx3 : ∀ (i : Nat) (v : V) (z : RK), xs[i]? = some v → rs[i]? = some z → RkAt K J v z := fun i v z a b => (hx i v z a b).tk o3.tk
    refine dc_tup (K := K) (a := k) (xs := xs) (fun i H' => ∃ (c : Str → Addr) (st : Str → Ke), Off K (fun _ => False) J H' ∧ H' D = some (.dK (byK kN ((rs.map (·.1)).take i) fun x => .ref (c x))) ∧
      (∀ x ∈ (rs.map (·.1)).take i, KCell K T.C_Kettle H' (c x) (st x) ∧ Nw J (c x)) ∧ (∀ x ∈ (rs.map (·.1)).take i, ∀ y ∈ (rs.map (·.1)).take i, c x = c y → x = y) ∧ KtOf st (rs.take i))
      ⟨fun _ => 0, fun _ => ke0 0 0 0, .new hD, upd_same, fun x hx => absurd hx List.not_mem_nil, fun x hx => absurd hx List.not_mem_nil, fun x hx => absurd hx List.not_mem_nil⟩
      (fun i H' _ ⟨_, _, oJ, _⟩ => oJ.tk _ _ (o3.tk _ _ hm)) (fun i v H' hi w => ?_) ?_
    · obtain ⟨c, st, oJ, hd, hc, ci, so⟩ := w
      have hi2 := (List.getElem?_eq_some_iff.mp hi).1
      obtain ⟨z, hz⟩ : ∃ z, rs[i]? = some z := ⟨_, List.getElem?_eq_getElem (by omega)⟩
      obtain ⟨t, dv, rfl, ht, hdv⟩ := (hx3 i v z hi hz).tk oJ.tk
      have hnz : (rs.map (·.1))[i]? = some z.1 := by rw [List.getElem?_map, hz] <;> rfl
      have notin : z.1 ∉ (rs.map (·.1)).take i := fun h => by
        have nd2 : ((rs.map (·.1)).take (i + 1)).Nodup := (List.take_sublist _ _).nodup nd
        rw [take_one hnz, List.nodup_append] at nd2
        exact nd2.2.2 _ h _ (List.mem_singleton.mpr rfl) rfl
      refine ⟨t, _, rfl, ht, rfl, _, _, rfl, _, _, rfl, _, _, rfl, _, _, rfl, rfl, rfl, yesT ?_⟩
      refine ⟨_, rfl, _, rfl, _, rfl, _, rfl, fun c2 dc n1 n2 ne2 => ?_⟩
      have o4 : Off K (· = D) H' (upd (upd H' dc (.own c2)) c2 (.ins T.C_Kettle dc [])) := (Off.refl.fresh n2).fresh n1
      have c2D : c2 ≠ D := (ne_of_none hd n1).symm
      have hd4 : (upd (upd H' dc (.own c2)) c2 (.ins T.C_Kettle dc [])) D = some (.dK (byK kN ((rs.map (·.1)).take i) fun x => .ref (c x))) := (by rw [upd_ne c2D.symm, upd_ne (ne_of_none hd n2)]; exact hd)
      refine ⟨c2, dc, z.2.1, z.2.2.1, dv, z.2.2.2, rfl, upd_same, hdv.tk o4.tk, fun H5 hc5 o5 => ⟨rfl, ?_⟩⟩
      generalize upd (upd H' dc (.own c2)) c2 (.ins T.C_Kettle dc []) = H4 at o4 hd4 o5
      have hd5 := o5.dK c2D.symm hd4
      have o15 : Off K (· = D) H' H5 := o4.trans o5 fun b e => .inr (.of (by rw [e]; exact n1))
      have e6 : putK (byK kN ((rs.map (·.1)).take i) fun x => V.ref (c x)) (kN z.1) (.ref c2) = byK kN ((rs.map (·.1)).take (i + 1)) fun x => .ref (set1 c z.1 c2 x) := by
        rw [byK_put kN_inj, take_one hnz]
        unfold addK
        rw [if_neg notin]
        refine byK_congr fun y _ => ?_
        show set1 (fun x => V.ref (c x)) z.1 (.ref c2) y = .ref (set1 c z.1 c2 y)
        by_cases e : y = z.1
        · rw [e, set1_same, set1_same]
        · rw [set1_ne e, set1_ne e]
      refine ⟨_, kN z.1, rfl, hd5, by rw [byK_len, List.length_take]; exact small' (by omega), ?_⟩
      rw [e6]
      have o6 : Off K (· = D) H' (upd H5 D (.dK (byK kN ((rs.map (·.1)).take (i + 1)) fun x => .ref (set1 c z.1 c2 x)))) := o15.write rfl hd .dK
      have o56 : Off K (· = D) H5 (upd H5 D (.dK (byK kN ((rs.map (·.1)).take (i + 1)) fun x => .ref (set1 c z.1 c2 x)))) := .put hd5 .dK rfl
      have nJ : ∀ b, Nw H' b → Nw J b := fun b k => Nw.back oJ id k
      have hc6 : KCell K T.C_Kettle (upd H5 D (.dK (byK kN ((rs.map (·.1)).take (i + 1)) fun x => .ref (set1 c z.1 c2 x)))) c2 (ke0 z.2.1 z.2.2.1 z.2.2.2) := hc5.off o56 c2D
      have c2n : ∀ y ∈ (rs.map (·.1)).take i, c2 ≠ c y := fun y hy => by
        obtain ⟨⟨dx9, dv9, jv9, k9, _⟩, _⟩ := hc y hy
        exact (Nw.of n1).ne k9 .ins
      have mem : ∀ y, y ∈ (rs.map (·.1)).take (i + 1) → y = z.1 ∨ (y ≠ z.1 ∧ y ∈ (rs.map (·.1)).take i) := fun y hy => by
        rw [take_one hnz] at hy
        rcases List.mem_append.mp hy with h | h
        · exact .inr ⟨fun e => notin (e ▸ h), h⟩
        · exact .inl (List.mem_singleton.mp h)
      refine ⟨set1 c z.1 c2, set1 st z.1 (ke0 z.2.1 z.2.2.1 z.2.2.2), oJ.trans o6 (fun b e => .inr (.of (by rw [e]; exact hD))), upd_same, fun y hy => ?_, fun y hy u hu e => ?_, fun y hy => ?_⟩
      · rcases mem y hy with h | ⟨h, hm'⟩
        · rw [h, set1_same, set1_same]
          exact ⟨hc6, nJ _ (.of n1)⟩
        · rw [set1_ne h, set1_ne h]
          obtain ⟨q1, q2⟩ := hc y hm'
          refine ⟨q1.off o6 (fun e => ?_), q2⟩
          obtain ⟨dx9, dv9, jv9, k9, _⟩ := q1
          rw [e, hd] at k9
          cases k9
      · rcases mem y hy with h | ⟨h, hm'⟩
        · rcases mem u hu with h' | ⟨h', hm''⟩
          · rw [h, h']
          · rw [h, set1_same, set1_ne h'] at e
            exact absurd e (c2n u hm'')
        · rcases mem u hu with h' | ⟨h', hm''⟩
          · rw [h', set1_same, set1_ne h] at e
            exact absurd e.symm (c2n y hm')
          · rw [set1_ne h, set1_ne h'] at e
            exact ci y hm' u hm'' e
      · rw [take_one hz] at hy
        rcases List.mem_append.mp hy with h | h
        · have hn : y.1 ≠ z.1 := fun e => notin (by rw [← e, ← List.map_take]; exact List.mem_map.mpr ⟨y, h, rfl⟩)
          rw [set1_ne hn]
          exact so y h
        · rw [List.mem_singleton.mp h, set1_same]
    · rintro H4 ⟨c, st, oJ, hd, hc, ci, so⟩
      rw [len, List.take_length] at so
      rw [show (rs.map (·.1)).take xs.length = rs.map (·.1) from List.take_of_length_le (by rw [List.length_map, len]; exact Nat.le_refl _)] at hd hc ci
      have hp4 := oJ.ins id hp3
      refine ⟨_, rfl, p, T.C_Kettles, dx, _, rfl, hp4, T.L_Kettles, T.n_Kettles__table, (by show 1 < 1000; decide), ?_⟩
      refine ⟨_, rfl, p, T.C_Kettles, dx, _, rfl, upd_same, T.L_Kettles, T.n_Kettles__hour, (by show 2 < 1000; decide), ?_⟩
      refine ⟨_, rfl, p, T.C_Kettles, dx, _, rfl, upd_same, T.L_Kettles, T.n_Kettles__boiled, (by show 3 < 1000; decide), ?_⟩
      have o48 : Off K (· = p) H4 _ := ((((Off.refl (K := K) (R := (· = p)) (H := H4)).write rfl hp4 .ins (o2 := .ins T.C_Kettles dx [("_row", .ref a), ("_table", .ref D)])).write rfl hp4 .ins (o2 := .ins T.C_Kettles dx [("_row", .ref a), ("_table", .ref D), ("_hour", .int 0)]))).write rfl hp4 .ins (o2 := .ins T.C_Kettles dx (kfs (.ref a) D 0 (.ref T.C_NOUGHT)))
      have o08 : Off K (· = p) H _ := (o3.trans oJ fun _ h => h.elim).seq o48
      have cp : ∀ x ∈ rs.map (·.1), c x ≠ p := fun x hx => (hc x hx).2.ne hp3 .ins
      have Dp : D ≠ p := (ne_of_none hp3 hD).symm
      have nH : ∀ b, b ≠ p → Nw J b → Nw H b := fun b n k => Nw.back o3 n k
      refine q ⟨p, D, c, .ref a⟩ st _ rfl ⟨⟨dx, .ref T.C_NOUGHT, upd_same, _, rfl, (show FrQ K _ T.C_NOUGHT 0 from T.q_NOUGHT _)⟩, o48.dK Dp hd, fun x hx => (hc x hx).1.off o48 (cp x hx), ci, cp⟩ so o08 (fun b hb => ?_)
      rcases hb with (h | ⟨x, hx, h⟩) | h
      · exact .inl h
      · exact .inr (by rw [h]; exact nH _ (cp x hx) (hc x hx).2)
      · exact .inr (by rw [h]; exact nH _ Dp (.of hD))
  in #guard_msgs (pass all) in example : True := trivial

end
end KR
namespace KR
open PySem PySem.Spec PyProof.Rows L2
section
variable {P : Program} {w : World} {K : PySem.W.Frag} {mg : Str → Option Value} {base : Heap}
set_option Elab.async true in
theorem ok_Kettles__named (T : All K mg) : FnOk P w K mg base (L2.CX P w) 3 T.f_Kettles__named T.fd_Kettles__named ["self", "name"] (sp_Kettles_named K T.C_Kettles T.C_Kettle T.C_NoKettle) := by
  refine T.F_Kettles__named.okX sc_Kettles__named (fun vs H Q E h => ?_) (fun cdv A outer s H vs Q E hr h => ?_)
  · obtain ⟨A, nms, S, x, rfl, _⟩ := h
    rfl
  · obtain ⟨Ad, nms, S, x, rfl, hk, w1, w2⟩ := h
    refine ⟨_, (pss_cons (ps_if (PW.pt (pw_or (pt_not (pt_val (pe_callB (isiK (K := K) rfl) (by rfl) T.b_isinstance (by decide +kernel) (pa_cons (pv 1) (pa_cons (pe_bltn (v := .ty "str") (by rfl) T.b_str (by decide +kernel) rfl) pa_nil))))) (pw_or1 (pt_cmp (pc_dnotin (hu_of hr) (pv 1) (pe_fldK (K := K) rfl (pv 0) rfl)) (by with_unfolding_all rfl))))) (pss_one (ps_raise rfl (takes_of rfl rfl rfl rfl) (pmk_oex T.O_NoKettle T.i_NoKettle T.tI_NoKettle (ok_init_NoKettle T) (hr.mono (by decide)) T.bI_NoKettle .nil pass0 rfl T.g_NoKettle (by exact (pa_cons (pv 1) pa_nil))))) pss_nil)
      (pss_one (ps_ret (pe_dget (hu_of hr) (pe_fldK (K := K) rfl (pv 0) rfl) (pv 1) (fun _ _ => rfl))))), ?_⟩
    obtain ⟨dx, bv, hp, _⟩ := hk.p
    have ht := hk.t
    refine ⟨_, rfl, _, _, _, _, _, rfl, .ty _, .base (.str x), kit_ty (show kitB "str" "str" = some true by decide +kernel), _, rfl, ?_⟩
    refine iteF ?_
    refine ⟨_, rfl, _, rfl, Ad.p, T.C_Kettles, dx, _, _, rfl, hp, T.L_Kettles, T.n_Kettles__table, rfl, ?_⟩
    by_cases hx : x ∈ nms
    · refine ⟨Ad.t, some _, rfl, dget_n (.inl ht) hx, _, rfl, iteF ?_⟩
      exact ⟨_, rfl, Ad.p, T.C_Kettles, dx, _, _, rfl, hp, T.L_Kettles, T.n_Kettles__table, rfl, _, rfl, Ad.t, _, rfl, dget_n (.inl ht) hx, w2 hx⟩
    · refine ⟨Ad.t, none, rfl, dget_n0 (.inl ht) hx, _, rfl, iteT ?_⟩
      refine ⟨_, rfl, by show 1 ≤ 1000; decide, fun b hb => ⟨b, .str x, rfl, upd_same, fun d hd hne => ?_⟩⟩
      rw [upd_ne hne] at hd
      refine ⟨rfl, d, (wh "NoKettle" (.str x)), upd_same, by rw [upd_ne hne, upd_same], hd, ?_⟩
      exact w1 hx d _ (raised_keeps (o1 := exo b T.C_NoKettle none) (o2 := exd d (wh "NoKettle" (.str x))) (o3 := exo b T.C_NoKettle (some d)) (o4 := .xd (wh "NoKettle" (.str x))) hb hd) upd_same
  in #guard_msgs (pass all) in example : True := trivial

end
end KR
namespace KR
open PySem PySem.Spec PyProof.Rows L2
section
variable {P : Program} {w : World} {K : PySem.W.Frag} {mg : Str → Option Value} {base : Heap}
set_option Elab.async true in
theorem ok_Kettles_boil_on (T : All K mg) : FnOk P w K mg base CX0 6 T.f_Kettles_boil_on T.fd_Kettles_boil_on ["self", "hours"] (sp_Kettles_boil_on K T.C_Kettles T.C_Kettle) := by
  refine T.F_Kettles_boil_on.ok sc_Kettles_boil_on (fun vs H Q E h => ?_) (fun cdv A outer s H vs Q E hr h => ?_)
  · obtain ⟨A, nms, S, h, rfl, _⟩ := h
    rfl
  · obtain ⟨Ad, nms, S, h, rfl, hk, nd, kbg, gb, q⟩ := h
    refine ⟨_, (pss_cons (ps_fldaug (pv 0) (pv 1) in_add)
      (pss_one (ps_lock (ps_for PassesOwn.never rfl (pi_values (pe_fldK (K := K) rfl (pv 0) rfl)) (pg_name (i := 2) sc_Kettles_boil_on.nd rfl (by first | exact Or.inl rfl | exact Or.inr rfl)) (pss_one (ps_if (pt_val (pe_fldK (K := K) rfl (pv 2) rfl)) (pss_one (ps_fld (pv 0) (pe_call (ok_p_sum_of T) (hr.mono (by decide)) (by rfl) T.d_p_sum_of.mg T.d_p_sum_of.fn.kp T.d_p_sum_of.b .nil pass0 (pa_cons (pe_fldK (K := K) rfl (pv 0) rfl) (pa_cons (pe_meth (pv 2) T.L_Kettle T.m_Kettle_boil (ok_Kettle_boil T) hr T.b_Kettle_boil .nil pass0 (pa_cons (pv 1) pa_nil)) pa_nil))) rfl)) pss_nil)))))), ?_⟩
    obtain ⟨dx, bv, hp, b0, rfl, hb0⟩ := hk.p
    refine ⟨_, rfl, Ad.p, T.C_Kettles, dx, _, _, rfl, hp, T.L_Kettles, T.n_Kettles__hour, rfl, _, rfl, _, _, rfl, rfl, dx, _, hp, (by show 4 < 1000; decide), ?_⟩
    have of1 : Off K (· = Ad.p) H _ := .put hp .ins rfl (o2 := .ins T.C_Kettles dx (kfs Ad.rv Ad.t (S.hour + h : Int) (.ref b0)))
    have ht1 := of1.dK hk.tp hk.t
    refine ⟨Ad.t, _, ht1, trivial, fun od => ?_⟩
    generalize eL : upd _ Ad.t (HO.frz od _) = L
    have gL : L Ad.t = some (.frz od (.dK (byK kN nms fun x => .ref (Ad.c x)))) := by rw [← eL]; exact upd_same
    have tL : TK K H L := of1.tk.trans (by rw [← eL]; exact tk_lock ht1)
    have pL : L Ad.p = some (.ins T.C_Kettles dx (kfs Ad.rv Ad.t ((S.hour + h : Nat) : Int) (.ref b0))) := by
      rw [← eL, upd_ne hk.tp.symm]
      exact upd_same
    have cL : ∀ x ∈ nms, KCell K T.C_Kettle L (Ad.c x) (S.st x) := fun x hx => by
      obtain ⟨dc, mv, jv, k1, k2, k3⟩ := hk.cell x hx
      refine ⟨dc, mv, jv, ?_, k2.tk tL, k3.tk tL⟩
      rw [← eL, upd_ne (hk.tc hx).symm]
      exact of1.ins (hk.cp x hx) k1
    refine ⟨_, rfl, Ad.p, T.C_Kettles, dx, _, _, rfl, pL, T.L_Kettles, T.n_Kettles__table, rfl, Ad.t, od, _, rfl, gL, ?_⟩
    refine for_vals (fun i σ H' => ∃ (x2 : Option V) (bi : Addr) (dp : Addr), σ = [some (.ref Ad.p), some (.int h), x2] ∧ H' Ad.t = some (.frz od (.dK (byK kN nms fun x => .ref (Ad.c x)))) ∧ H' Ad.p = some (.ins T.C_Kettles dp (kfs Ad.rv Ad.t ((S.hour + h : Nat) : Int) (.ref bi))) ∧ FrQ K H' bi (goff h S.st (nms.take i) S.gone) ∧ (∀ x ∈ nms, KCell K T.C_Kettle H' (Ad.c x) (if x ∈ nms.take i then kb h (S.st x) else S.st x)) ∧ Off K (Ad.R nms) L H') ⟨none, b0, dx, rfl, gL, pL, hb0.tk tL, fun x hx => cL x hx, .refl⟩ (fun i σ H' _ ⟨_, _, _, _, g, _⟩ => g) ?_ ?_
    · rintro i k v σ H' hi ⟨x2, bi, dp, rfl, g1, p1, f1, c1, o1⟩
      obtain ⟨x, hx, e⟩ := byK_get hi
      cases e
      have hxm := List.mem_of_getElem? hx
      have il := (List.getElem?_eq_some_iff.mp hx).1
      have nx : x ∉ nms.take i := fun z => by
        have nd2 : (nms.take (i + 1)).Nodup := (List.take_sublist _ _).nodup nd
        rw [take_one hx, List.nodup_append] at nd2
        exact nd2.2.2 _ z _ (List.mem_singleton.mpr rfl) rfl
      have cx := c1 x hxm
      rw [if_neg nx] at cx
      obtain ⟨dc, mv, jv, k1, k2, k3⟩ := id cx
      refine ⟨_, rfl, Ad.c x, T.C_Kettle, dc, _, _, rfl, k1, T.L_Kettle, T.n_Kettle_at_work, rfl, _, rfl, ?_⟩
      have mem : ∀ y, y ∈ nms.take (i + 1) ↔ y ∈ nms.take i ∨ y = x := fun y => by rw [take_one hx, List.mem_append, List.mem_singleton]
      cases ho : (S.st x).on with
      | false =>
        have ek : kb h (S.st x) = S.st x := if_neg (by rw [ho]; decide)
        refine ⟨_, bi, dp, rfl, g1, p1, ?_, fun y hy => ?_, o1⟩
        · rw [goff_take hx, ek, show (S.st x).w - (S.st x).w = 0 by grind, Rat.add_zero]
          exact f1
        · by_cases e : y = x
          · rw [if_pos ((mem y).mpr (.inr e)), e, ek]
            exact cx
          · have := c1 y hy
            by_cases z : y ∈ nms.take i
            · rw [if_pos z] at this
              rw [if_pos ((mem y).mpr (.inl z))]
              exact this
            · rw [if_neg z] at this
              rw [if_neg (fun q => (((mem y).mp q).elim z e))]
              exact this
      | true =>
        have ek : kb h (S.st x) = { S.st x with w := boil (S.st x).s (S.st x).w (S.st x).fire (S.st x).mark ((h : Int) : Rat) } := if_pos ho
        have ew : (kb h (S.st x)).w = boil (S.st x).s (S.st x).w (S.st x).fire (S.st x).mark ((h : Int) : Rat) := by rw [ek]
        have kg := kbg x hxm
        refine ⟨_, rfl, Ad.p, T.C_Kettles, dp, _, _, rfl, p1, T.L_Kettles, T.n_Kettles__boiled, rfl, ?_⟩
        refine ⟨_, rfl, Ad.c x, dc, _, rfl, k1, rfl, _, rfl, Ad.c x, S.st x, h, rfl, cx, kg, fun a H2 kc2 fr2 o2 => ?_⟩
        have pc : Ad.p ≠ Ad.c x := (hk.cp x hxm).symm
        have p2 := o2.ins pc p1
        refine ⟨bi, a, _, _, rfl, f1.tk o2.tk, fr2, gb i (by omega), kg.g, trivial, fun z H3 s3 n3 h3 => ?_⟩
        have p3 := s3 _ _ p2
        refine ⟨_, rfl, Ad.p, T.C_Kettles, dp, _, rfl, p3, T.L_Kettles, T.n_Kettles__boiled, (by show 4 < 1000; decide), ?_⟩
        have op : Off K (· = Ad.p) H3 _ := .put p3 .ins rfl (o2 := .ins T.C_Kettles dp (kfs Ad.rv Ad.t ((S.hour + h : Nat) : Int) (.ref z)))
        have oall : Off K (Ad.R nms) H' _ := ((o2.mono (R2 := Ad.R nms) fun a e => .inr ⟨x, hxm, e⟩).seq (.same s3)).seq (op.mono fun a e => .inl e)
        have ntR : ¬ Ad.R nms Ad.t := fun z => z.elim hk.tp fun ⟨y, hy, e⟩ => hk.tc hy e
        refine ⟨_, z, dp, rfl, oall.keep _ _ ntR g1 nofun, upd_same, ?_, fun y hy => ?_, o1.seq oall⟩
        · rw [goff_take hx, ew]
          exact (show FrQ K H3 z _ from h3).tk op.tk
        · by_cases e : y = x
          · rw [if_pos ((mem y).mpr (.inr e)), e, ek]
            exact (kc2.off (R := fun _ => False) (.same s3) id).off op (hk.cp x hxm)
          · have k := c1 y hy
            have ne : ¬ (Ad.c y = Ad.c x) := fun z => e (hk.ci y hy x hxm z)
            have k' := ((k.off o2 ne).off (R := fun _ => False) (.same s3) id).off op (hk.cp y hy)
            by_cases z : y ∈ nms.take i
            · rw [if_pos z] at k'
              rw [if_pos ((mem y).mpr (.inl z))]
              exact k'
            · rw [if_neg z] at k'
              rw [if_neg (fun q => (((mem y).mp q).elim z e))]
              exact k'
    · rintro σ H' ⟨x2, bi, dp, rfl, g1, p1, f1, c1, o1⟩
      rw [byK_len, List.take_length] at f1 c1
      refine ⟨g1, ?_⟩
      have tU : TK K H' (upd H' Ad.t (.dK (byK kN nms fun x => .ref (Ad.c x)))) := tk_unlock g1
      have ofR : Off K (Ad.R nms) H (upd H' Ad.t (.dK (byK kN nms fun x => .ref (Ad.c x)))) := by
        have a1 := of1.mono (R2 := Ad.R nms) fun a e => .inl e
        refine ⟨fun b o nb e nt => ?_, fun b gb => ?_, of1.tk.trans ((by rw [← eL]; exact tk_lock ht1 : TK K _ L).trans (o1.tk.trans tU))⟩
        · by_cases c : b = Ad.t
          · rw [c, upd_same]
            rw [c, hk.t] at e
            exact e
          · rw [upd_ne c]
            refine o1.keep b o nb ?_ nt
            rw [← eL, upd_ne c]
            exact a1.keep b o nb e nt
        · have g2 := a1.tab b gb
          have bt : b ≠ Ad.t := g2.elim fun q z y => by rw [y, ht1] at z; cases z.1
          have g3 : GxR.TabG L b := g2.elim fun q z => ⟨q, by rw [← eL, upd_ne bt]; exact z.1, z.2⟩
          exact (o1.tab b g3).elim fun q z => ⟨q, by rw [upd_ne bt]; exact z.1, z.2⟩
      refine q _ ⟨⟨dp, .ref bi, ?_, bi, rfl, f1.tk tU⟩, upd_same, fun x hx => ?_, hk.ci, hk.cp⟩ ofR
      · rw [upd_ne hk.tp.symm]
        exact p1
      · have k := c1 x hx
        rw [if_pos hx] at k
        obtain ⟨dc, mv, jv, k1, k2, k3⟩ := k
        refine ⟨dc, mv, jv, ?_, k2.tk tU, k3.tk tU⟩
        rw [upd_ne (hk.tc hx).symm]
        exact k1
  in #guard_msgs (pass all) in example : True := trivial

end
end KR
namespace KR
open PySem PySem.Spec PyProof.Rows L2
section
variable {P : Program} {w : World} {K : PySem.W.Frag} {mg : Str → Option Value} {base : Heap}
set_option Elab.async true in
theorem ok_Kettles_pour (T : All K mg) : FnOk P w K mg base (L2.CX P w) 6 T.f_Kettles_pour T.fd_Kettles_pour ["self", "kettle", "juice"] (sp_Kettles_pour K T.C_Kettles T.C_Kettle T.C_NoKettle T.C_NoRoom) := by
  refine T.F_Kettles_pour.okX sc_Kettles_pour (fun vs H Q E h => ?_) (fun cdv A outer s H vs Q E hr h => ?_)
  · obtain ⟨A, nms, S, x, j, s, w, rfl, _⟩ := h
    rfl
  · obtain ⟨Ad, nms, S, x, j, s, w, rfl, hk, hj, bg, w1, w2, w3⟩ := h
    refine ⟨_, (pss_cons (ps_set (i := 3) sc_Kettles_pour.nd rfl (by first | exact Or.inl rfl | exact Or.inr rfl) (pe_meth (pv 0) T.L_Kettles T.m_Kettles__named (ok_Kettles__named T) (hr.mono (by decide)) T.b_Kettles__named .nil (passes_call (takes_of rfl rfl rfl rfl) (fun _ _ _ _ h => h)) (pa_cons (pv 1) pa_nil)))
      (pss_one (ps_fld (pv 3) (pe_call (ok_p_poured_into T) hr (by rfl) T.d_p_poured_into.mg T.d_p_poured_into.fn.kp T.d_p_poured_into.b .nil (passes_call (takes_of rfl rfl rfl rfl) (fun _ _ _ _ h => h)) (pa_cons (pv 1) (pa_cons (pe_fldK (K := K) rfl (pv 3) rfl) (pa_cons (pe_fldK (K := K) rfl (pv 3) rfl) (pa_cons (pv 2) pa_nil))))) rfl))), ?_⟩
    obtain ⟨dx, bv, hp, _⟩ := hk.p
    refine ⟨_, rfl, Ad.p, dx, _, rfl, hp, rfl, _, rfl, Ad, nms, S, x, rfl, hk, w1, fun hx => ?_⟩
    obtain ⟨dc, mv, jv, k1, k2, j0, rfl, k3⟩ := hk.cell x hx
    obtain ⟨vb, rb⟩ := bg hx
    refine ⟨_, rfl, _, rfl, Ad.c x, T.C_Kettle, dc, _, _, rfl, k1, T.L_Kettle, T.n_Kettle_room, rfl, ?_⟩
    refine ⟨_, rfl, Ad.c x, T.C_Kettle, dc, _, _, rfl, k1, T.L_Kettle, T.n_Kettle_juice, rfl, ?_⟩
    refine ⟨_, rfl, .str x, (S.st x).room, j0, j, _, _, s, w, rfl, k3, hj, vb.a, vb.b, vb.c, vb.d, vb.e, vb.f, vb.g, rb, w2 hx, fun nr z H1 s1 hz => ?_⟩
    refine ⟨_, rfl, Ad.c x, T.C_Kettle, dc, _, rfl, s1 _ _ k1, T.L_Kettle, T.n_Kettle_juice, (by show 5 < 1000; decide), ?_⟩
    have of1 : Off K (· = Ad.c x) H1 _ := .put (s1 _ _ k1) .ins rfl (o2 := .ins T.C_Kettle dc (kf (S.st x).room (S.st x).fire mv (.ref z) (S.st x).on))
    have of : Off K (· = Ad.c x) H _ := (Off.same s1).seq of1
    exact w3 hx nr _ (hk.set hx of ⟨dc, mv, .ref z, upd_same, k2.tk of.tk, z, rfl, hz.tk of1.tk⟩) (of.mono fun a e => .inr ⟨x, hx, e⟩)
  in #guard_msgs (pass all) in example : True := trivial

end
end KR
namespace KR
open PySem PySem.Spec PyProof.Rows L2
section
variable {P : Program} {w : World} {K : PySem.W.Frag} {mg : Str → Option Value} {base : Heap}
set_option Elab.async true in
theorem ok_Kettles_take_out (T : All K mg) : FnOk P w K mg base (L2.CX P w) 5 T.f_Kettles_take_out T.fd_Kettles_take_out ["self", "kettle", "part"] (sp_Kettles_take K T.C_Kettles T.C_Kettle T.C_NoKettle) := by
  refine T.F_Kettles_take_out.okX sc_Kettles_take_out (fun vs H Q E h => ?_) (fun cdv A outer s H vs Q E hr h => ?_)
  · obtain ⟨A, nms, S, x, a, t, rfl, _⟩ := h
    rfl
  · obtain ⟨Ad, nms, S, x, a, t, rfl, hk, hx, ha, b1, b2, b3, b4, q⟩ := h
    refine ⟨_, (pss_cons (ps_set (i := 3) sc_Kettles_take_out.nd rfl (by first | exact Or.inl rfl | exact Or.inr rfl) (pe_meth (pv 0) T.L_Kettles T.m_Kettles__named (ok_Kettles__named T) (hr.mono (by decide)) T.b_Kettles__named .nil (passes_call (takes_of rfl rfl rfl rfl) (fun _ _ _ _ h => h)) (pa_cons (pv 1) pa_nil)))
      (pss_cons (ps_set (i := 4) sc_Kettles_take_out.nd rfl (by first | exact Or.inl rfl | exact Or.inr rfl) (pe_call (ok_p_share_of T) (hr.mono (by decide)) (by rfl) T.d_p_share_of.mg T.d_p_share_of.fn.kp T.d_p_share_of.b .nil pass0 (pa_cons (pe_fldK (K := K) rfl (pv 3) rfl) (pa_cons (pv 2) pa_nil))))
      (pss_cons (ps_fld (pv 3) (pe_call (ok_p_rest_of T) hr (by rfl) T.d_p_rest_of.mg T.d_p_rest_of.fn.kp T.d_p_rest_of.b .nil pass0 (pa_cons (pe_fldK (K := K) rfl (pv 3) rfl) (pa_cons (pv 2) pa_nil))) rfl)
      (pss_one (ps_ret (pv 4)))))), ?_⟩
    obtain ⟨dx, bv, hp, _⟩ := hk.p
    refine ⟨_, rfl, Ad.p, dx, _, rfl, hp, rfl, _, rfl, Ad, nms, S, x, rfl, hk, fun z => absurd hx z, fun hx => ?_⟩
    obtain ⟨dc, mv, jv, k1, k2, j0, rfl, k3⟩ := hk.cell x hx
    refine ⟨_, rfl, Ad.c x, T.C_Kettle, dc, _, _, rfl, k1, T.L_Kettle, T.n_Kettle_juice, rfl, ?_⟩
    refine ⟨_, rfl, j0, a, _, _, t, rfl, k3, ha, b1, b2, b3, fun z H1 s1 hz => ?_⟩
    refine ⟨_, rfl, Ad.c x, T.C_Kettle, dc, _, _, rfl, s1 _ _ k1, T.L_Kettle, T.n_Kettle_juice, rfl, ?_⟩
    refine ⟨_, rfl, j0, a, _, _, t, rfl, k3.same s1, ha.same s1, b1, b2, b3, b4, fun y H2 s2 hy => ?_⟩
    have s12 := s1.trans s2
    refine ⟨_, rfl, Ad.c x, T.C_Kettle, dc, _, rfl, s12 _ _ k1, T.L_Kettle, T.n_Kettle_juice, (by show 5 < 1000; decide), ?_⟩
    have of1 : Off K (· = Ad.c x) H2 _ := .put (s12 _ _ k1) .ins rfl (o2 := .ins T.C_Kettle dc (kf (S.st x).room (S.st x).fire mv (.ref y) (S.st x).on))
    have of : Off K (· = Ad.c x) H _ := (Off.same s12).seq of1
    exact ⟨_, rfl, q z _ (hk.set hx of ⟨dc, mv, .ref y, upd_same, k2.tk of.tk, y, rfl, hy.tk of1.tk⟩) ((hz.same s2).tk of1.tk) (of.mono fun a e => .inr ⟨x, hx, e⟩)⟩
  in #guard_msgs (pass all) in example : True := trivial

end
end KR
namespace KR
open PySem PySem.Spec PyProof.Rows L2
section
variable {P : Program} {w : World} {K : PySem.W.Frag} {mg : Str → Option Value} {base : Heap}
set_option Elab.async true in
theorem ok_Kettles_dip (T : All K mg) : FnOk P w K mg base (L2.CX P w) 6 T.f_Kettles_dip T.fd_Kettles_dip ["self", "kettle", "share"] (sp_Kettles_dip K T.C_Kettles T.C_Kettle T.C_NoKettle T.C_NoShare T.C_Empty) := by
  refine T.F_Kettles_dip.okX sc_Kettles_dip (fun vs H Q E h => ?_) (fun cdv A outer s H vs Q E hr h => ?_)
  · obtain ⟨A, nms, S, x, a, t, rfl, _⟩ := h
    rfl
  · obtain ⟨Ad, nms, S, x, a, t, rfl, hk, ha, bg, b3, b4, w1, w2, w3, w4⟩ := h
    refine ⟨_, (pss_cons (ps_set (i := 3) sc_Kettles_dip.nd rfl (by first | exact Or.inl rfl | exact Or.inr rfl) (pe_meth (pv 0) T.L_Kettles T.m_Kettles__named (ok_Kettles__named T) (hr.mono (by decide)) T.b_Kettles__named .nil (passes_call (takes_of rfl rfl rfl rfl) (fun _ _ _ _ h => h)) (pa_cons (pv 1) pa_nil)))
      (pss_cons (ps_expr (pe_call (ok_p_need_share T) (hr.mono (by decide)) (by rfl) T.d_p_need_share.mg T.d_p_need_share.fn.kp T.d_p_need_share.b .nil (passes_call (takes_of rfl rfl rfl rfl) (fun _ _ _ _ h => h)) (pa_cons (pv 2) pa_nil)))
      (pss_cons (ps_expr (pe_call (ok_p_need_some T) (hr.mono (by decide)) (by rfl) T.d_p_need_some.mg T.d_p_need_some.fn.kp T.d_p_need_some.b .nil (passes_call (takes_of rfl rfl rfl rfl) (fun _ _ _ _ h => h)) (pa_cons (pv 1) (pa_cons (pe_fldK (K := K) rfl (pv 3) rfl) pa_nil))))
      (pss_one (ps_ret (pe_meth (pv 0) T.L_Kettles T.m_Kettles_take_out (ok_Kettles_take_out T) hr T.b_Kettles_take_out .nil (passes_call (takes_of rfl rfl rfl rfl) (fun _ _ _ _ h => h)) (pa_cons (pv 1) (pa_cons (pv 2) pa_nil)))))))), ?_⟩
    obtain ⟨dx, bv, hp, _⟩ := hk.p
    refine ⟨_, rfl, Ad.p, dx, _, rfl, hp, rfl, _, rfl, Ad, nms, S, x, rfl, hk, w1, fun hx => ?_⟩
    obtain ⟨dc, mv, jv, k1, k2, j0, rfl, k3⟩ := hk.cell x hx
    obtain ⟨b1, b2⟩ := bg hx
    refine ⟨_, rfl, a, t, rfl, ha, w2 hx, fun ok => ?_⟩
    refine ⟨_, rfl, _, rfl, Ad.c x, T.C_Kettle, dc, _, _, rfl, k1, T.L_Kettle, T.n_Kettle_juice, rfl, ?_⟩
    refine ⟨.str x, j0, _, _, rfl, k3, w3 hx ok, fun ne H1 s1 => ?_⟩
    refine ⟨_, rfl, Ad.p, dx, _, rfl, s1 _ _ hp, rfl, _, rfl, _, rfl, Ad, nms, S, x, a, t, rfl, hk.same s1, hx, ha.same s1, b1, b2, b3, b4, fun z H2 m2 j2 o2 => ?_⟩
    exact w4 hx ok ne z H2 m2 j2 ((Off.same s1).seq o2)
  in #guard_msgs (pass all) in example : True := trivial

end
end KR
namespace KR
open PySem PySem.Spec PyProof.Rows L2
section
variable {P : Program} {w : World} {K : PySem.W.Frag} {mg : Str → Option Value} {base : Heap}
set_option Elab.async true in
theorem ok_Kettles_ladle (T : All K mg) : FnOk P w K mg base (L2.CX P w) 7 T.f_Kettles_ladle T.fd_Kettles_ladle ["self", "one", "other", "share"] (sp_Kettles_ladle K T.C_Kettles T.C_Kettle T.C_NoKettle T.C_Same T.C_NoShare T.C_Empty T.C_NoRoom) := by
  refine T.F_Kettles_ladle.okX sc_Kettles_ladle (fun vs H Q E h => ?_) (fun cdv A outer s H vs Q E hr h => ?_)
  · obtain ⟨A, nms, S, x, y, a, t, rfl, _⟩ := h
    rfl
  · obtain ⟨Ad, nms, S, x, y, a, t, rfl, hk, ha, bg, b3, b4, w1, w2, w3, w4, w5, w6, w7⟩ := h
    refine ⟨_, (pss_cons (ps_set (i := 4) sc_Kettles_ladle.nd rfl (by first | exact Or.inl rfl | exact Or.inr rfl) (pe_meth (pv 0) T.L_Kettles T.m_Kettles__named (ok_Kettles__named T) (hr.mono (by decide)) T.b_Kettles__named .nil (passes_call (takes_of rfl rfl rfl rfl) (fun _ _ _ _ h => h)) (pa_cons (pv 1) pa_nil)))
      (pss_cons (ps_set (i := 5) sc_Kettles_ladle.nd rfl (by first | exact Or.inl rfl | exact Or.inr rfl) (pe_meth (pv 0) T.L_Kettles T.m_Kettles__named (ok_Kettles__named T) (hr.mono (by decide)) T.b_Kettles__named .nil (passes_call (takes_of rfl rfl rfl rfl) (fun _ _ _ _ h => h)) (pa_cons (pv 2) pa_nil)))
      (pss_cons (ps_if (pt_cmpR op_eq (pv 1) (pv 2) (nomark _)) (pss_one (ps_raise rfl (takes_of rfl rfl rfl rfl) (pmk_oex T.O_Same T.i_Same T.tI_Same (ok_init_Same T) (hr.mono (by decide)) T.bI_Same .nil pass0 rfl T.g_Same (by exact (pa_cons (pv 1) pa_nil))))) pss_nil)
      (pss_cons (ps_expr (pe_call (ok_p_need_share T) (hr.mono (by decide)) (by rfl) T.d_p_need_share.mg T.d_p_need_share.fn.kp T.d_p_need_share.b .nil (passes_call (takes_of rfl rfl rfl rfl) (fun _ _ _ _ h => h)) (pa_cons (pv 3) pa_nil)))
      (pss_cons (ps_expr (pe_call (ok_p_need_some T) (hr.mono (by decide)) (by rfl) T.d_p_need_some.mg T.d_p_need_some.fn.kp T.d_p_need_some.b .nil (passes_call (takes_of rfl rfl rfl rfl) (fun _ _ _ _ h => h)) (pa_cons (pv 1) (pa_cons (pe_fldK (K := K) rfl (pv 4) rfl) pa_nil))))
      (pss_cons (ps_fld (pv 5) (pe_call (ok_p_poured_into T) (hr.mono (by decide)) (by rfl) T.d_p_poured_into.mg T.d_p_poured_into.fn.kp T.d_p_poured_into.b .nil (passes_call (takes_of rfl rfl rfl rfl) (fun _ _ _ _ h => h)) (pa_cons (pv 2) (pa_cons (pe_fldK (K := K) rfl (pv 5) rfl) (pa_cons (pe_fldK (K := K) rfl (pv 5) rfl) (pa_cons (pe_call (ok_p_share_of T) (hr.mono (by decide)) (by rfl) T.d_p_share_of.mg T.d_p_share_of.fn.kp T.d_p_share_of.b .nil pass0 (pa_cons (pe_fldK (K := K) rfl (pv 4) rfl) (pa_cons (pv 3) pa_nil))) pa_nil))))) rfl)
      (pss_one (ps_ret (pe_meth (pv 0) T.L_Kettles T.m_Kettles_take_out (ok_Kettles_take_out T) (hr.mono (by decide)) T.b_Kettles_take_out .nil (passes_call (takes_of rfl rfl rfl rfl) (fun _ _ _ _ h => h)) (pa_cons (pv 1) (pa_cons (pv 3) pa_nil))))))))))), ?_⟩
    obtain ⟨dx, bv, hp, _⟩ := hk.p
    refine ⟨_, rfl, Ad.p, dx, _, rfl, hp, rfl, _, rfl, Ad, nms, S, x, rfl, hk, w1, fun hx => ?_⟩
    refine ⟨_, rfl, Ad.p, dx, _, rfl, hp, rfl, _, rfl, Ad, nms, S, y, rfl, hk, w2 hx, fun hy => ?_⟩
    obtain ⟨dc, mv, jv, k1, k2, j0, rfl, k3⟩ := hk.cell x hx
    obtain ⟨dy, my, jy, l1, l2, j1, rfl, l3⟩ := hk.cell y hy
    obtain ⟨b1, b2, vb, rb⟩ := bg hx hy
    refine ⟨_, rfl, _, rfl, rfl, _, rfl, ?_⟩
    by_cases c : V.str x = V.str y
    · rw [decide_eq_true c]
      have e : x = y := V.str.inj c
      refine ⟨_, rfl, by show 1 ≤ 1000; decide, fun b hb => ⟨b, .str x, rfl, upd_same, fun d hd hne => ?_⟩⟩
      rw [upd_ne hne] at hd
      refine ⟨rfl, d, (wh "Same" (.str x)), upd_same, by rw [upd_ne hne, upd_same], hd, ?_⟩
      exact w3 hx hy e d _ (raised_keeps (o1 := exo b T.C_Same none) (o2 := exd d (wh "Same" (.str x))) (o3 := exo b T.C_Same (some d)) (o4 := .xd (wh "Same" (.str x))) hb hd) upd_same
    rw [decide_eq_false c]
    have ne : x ≠ y := fun e => c (by rw [e])
    refine ⟨_, rfl, a, t, rfl, ha, w4 hx hy ne, fun ok => ?_⟩
    refine ⟨_, rfl, _, rfl, Ad.c x, T.C_Kettle, dc, _, _, rfl, k1, T.L_Kettle, T.n_Kettle_juice, rfl, ?_⟩
    refine ⟨.str x, j0, _, _, rfl, k3, w5 hx hy ne ok, fun nn H1 s1 => ?_⟩
    refine ⟨_, rfl, _, rfl, Ad.c y, T.C_Kettle, dy, _, _, rfl, s1 _ _ l1, T.L_Kettle, T.n_Kettle_room, rfl, ?_⟩
    refine ⟨_, rfl, Ad.c y, T.C_Kettle, dy, _, _, rfl, s1 _ _ l1, T.L_Kettle, T.n_Kettle_juice, rfl, ?_⟩
    refine ⟨_, rfl, Ad.c x, T.C_Kettle, dc, _, _, rfl, s1 _ _ k1, T.L_Kettle, T.n_Kettle_juice, rfl, ?_⟩
    refine ⟨_, rfl, j0, a, _, _, t, rfl, k3.same s1, ha.same s1, b1, b2, b3, fun g H2 s2 hg => ?_⟩
    have s12 := s1.trans s2
    refine ⟨.str y, (S.st y).room, j1, g, _, _, _, _, rfl, l3.same s12, hg, vb.a, vb.b, vb.c, vb.d, vb.e, vb.f, vb.g, rb, fun fu => w6 hx hy ne ok nn fu H2 s12, fun nf z H3 s3 hz => ?_⟩
    have s13 := s12.trans s3
    refine ⟨_, rfl, Ad.c y, T.C_Kettle, dy, _, rfl, s13 _ _ l1, T.L_Kettle, T.n_Kettle_juice, (by show 5 < 1000; decide), ?_⟩
    have of1 : Off K (· = Ad.c y) H3 _ := .put (s13 _ _ l1) .ins rfl (o2 := .ins T.C_Kettle dy (kf (S.st y).room (S.st y).fire my (.ref z) (S.st y).on))
    have of : Off K (· = Ad.c y) H _ := (Off.same s13).seq of1
    have hk1 := hk.set hy of (k := (S.st y).inn ((S.st x).s * t) ((S.st x).w * t)) ⟨dy, my, .ref z, upd_same, l2.tk of.tk, z, rfl, hz.tk of1.tk⟩
    have ex : (S.put y ((S.st y).inn ((S.st x).s * t) ((S.st x).w * t))).st x = S.st x := set1_ne ne
    obtain ⟨dx2, bv2, hp2, _⟩ := hk1.p
    refine ⟨_, rfl, Ad.p, dx2, _, rfl, hp2, rfl, _, rfl, _, rfl, Ad, nms, _, x, a, t, rfl, hk1, hx, ha.tk of.tk, by rw [ex]; exact b1, by rw [ex]; exact b2, b3, b4, fun z2 H4 m4 j4 o4 => ?_⟩
    rw [ex] at m4 j4
    exact w7 hx hy ne ok nn nf z2 H4 m4 j4 ((of.mono fun a e => .inr ⟨y, hy, e⟩).seq o4)
  in #guard_msgs (pass all) in example : True := trivial

end
end KR
namespace KR
open PySem PySem.Spec PyProof.Rows L2
section
variable {P : Program} {w : World} {K : PySem.W.Frag} {mg : Str → Option Value} {base : Heap}
set_option Elab.async true in
theorem ok_Kettles_skim (T : All K mg) : FnOk P w K mg base (L2.CX P w) 7 T.f_Kettles_skim T.fd_Kettles_skim ["self", "kettle", "share", "given", "other"] (sp_Kettles_skim K T.C_Kettles T.C_Kettle T.C_NoKettle T.C_NoShare T.C_Empty T.C_NoRoom) := by
  refine T.F_Kettles_skim.okX sc_Kettles_skim (fun vs H Q E h => ?_) (fun cdv A outer s H vs Q E hr h => ?_)
  · obtain ⟨A, nms, S, x, y, a, b, t, g, rfl, _⟩ := h
    rfl
  · obtain ⟨Ad, nms, S, x, y, a, b, t, g, rfl, hk, ha, hb, bg, b3, b4, b5, b6, w1, w2, w3, w4, w5, w6, w7⟩ := h
    refine ⟨_, (pss_cons (ps_set (i := 5) sc_Kettles_skim.nd rfl (by first | exact Or.inl rfl | exact Or.inr rfl) (pe_meth (pv 0) T.L_Kettles T.m_Kettles__named (ok_Kettles__named T) (hr.mono (by decide)) T.b_Kettles__named .nil (passes_call (takes_of rfl rfl rfl rfl) (fun _ _ _ _ h => h)) (pa_cons (pv 1) pa_nil)))
      (pss_cons (ps_set (i := 6) sc_Kettles_skim.nd rfl (by first | exact Or.inl rfl | exact Or.inr rfl) (pe_meth (pv 0) T.L_Kettles T.m_Kettles__named (ok_Kettles__named T) (hr.mono (by decide)) T.b_Kettles__named .nil (passes_call (takes_of rfl rfl rfl rfl) (fun _ _ _ _ h => h)) (pa_cons (pv 4) pa_nil)))
      (pss_cons (ps_expr (pe_call (ok_p_need_share T) (hr.mono (by decide)) (by rfl) T.d_p_need_share.mg T.d_p_need_share.fn.kp T.d_p_need_share.b .nil (passes_call (takes_of rfl rfl rfl rfl) (fun _ _ _ _ h => h)) (pa_cons (pv 2) pa_nil)))
      (pss_cons (ps_J (ps_if (pt_cmpR (neDK (K := K) rfl hr.units) (pv 3) (pe_glob (v := .ref T.C_NOUGHT) rfl T.g_NOUGHT rfl) (nomark _)) (pss_one (ps_expr (pe_call (ok_p_need_share T) (hr.mono (by decide)) (by rfl) T.d_p_need_share.mg T.d_p_need_share.fn.kp T.d_p_need_share.b .nil (passes_call (takes_of rfl rfl rfl rfl) (fun _ _ _ _ h => h)) (pa_cons (pv 3) pa_nil)))) pss_nil))
      (pss_cons (ps_expr (pe_call (ok_p_need_some T) (hr.mono (by decide)) (by rfl) T.d_p_need_some.mg T.d_p_need_some.fn.kp T.d_p_need_some.b .nil (passes_call (takes_of rfl rfl rfl rfl) (fun _ _ _ _ h => h)) (pa_cons (pv 1) (pa_cons (pe_fldK (K := K) rfl (pv 5) rfl) pa_nil))))
      (pss_cons (ps_set (i := 7) sc_Kettles_skim.nd rfl (by first | exact Or.inl rfl | exact Or.inr rfl) (pe_call (ok_p_share_of T) (hr.mono (by decide)) (by rfl) T.d_p_share_of.mg T.d_p_share_of.fn.kp T.d_p_share_of.b .nil pass0 (pa_cons (pe_fldK (K := K) rfl (pv 5) rfl) (pa_cons (pv 2) pa_nil))))
      (pss_cons (ps_set (i := 8) sc_Kettles_skim.nd rfl (by first | exact Or.inl rfl | exact Or.inr rfl) (pe_call (ok_p_rest_of T) (hr.mono (by decide)) (by rfl) T.d_p_rest_of.mg T.d_p_rest_of.fn.kp T.d_p_rest_of.b .nil pass0 (pa_cons (pe_fldK (K := K) rfl (pv 5) rfl) (pa_cons (pv 2) pa_nil))))
      (pss_cons (ps_set (i := 9) sc_Kettles_skim.nd rfl (by first | exact Or.inl rfl | exact Or.inr rfl) (pe_call (ok_p_share_of T) (hr.mono (by decide)) (by rfl) T.d_p_share_of.mg T.d_p_share_of.fn.kp T.d_p_share_of.b .nil pass0 (pa_cons (pv 7) (pa_cons (pv 3) pa_nil))))
      (pss_cons (ps_J (ps_set (i := 10) sc_Kettles_skim.nd rfl (by first | exact Or.inl rfl | exact Or.inr rfl) (pe_ifExp (pt_cmpR op_eq (pv 1) (pv 4) (nomark _)) (pv 8) (pe_fldK (K := K) rfl (pv 6) rfl))))
      (pss_cons (ps_set (i := 11) sc_Kettles_skim.nd rfl (by first | exact Or.inl rfl | exact Or.inr rfl) (pe_call (ok_p_poured_into T) (hr.mono (by decide)) (by rfl) T.d_p_poured_into.mg T.d_p_poured_into.fn.kp T.d_p_poured_into.b .nil (passes_call (takes_of rfl rfl rfl rfl) (fun _ _ _ _ h => h)) (pa_cons (pv 4) (pa_cons (pe_fldK (K := K) rfl (pv 6) rfl) (pa_cons (pv 10) (pa_cons (pv 9) pa_nil))))))
      (pss_cons (ps_fld (pv 5) (pv 8) rfl)
      (pss_cons (ps_fld (pv 6) (pv 11) rfl)
      (pss_one (ps_ret (pe_tupI (pa_cons (pv 9) (pa_cons (pe_call (ok_p_rest_of T) (hr.mono (by decide)) (by rfl) T.d_p_rest_of.mg T.d_p_rest_of.fn.kp T.d_p_rest_of.b .nil pass0 (pa_cons (pv 7) (pa_cons (pv 3) pa_nil))) pa_nil))))))))))))))))), ?_⟩
    obtain ⟨dx, bv, hp, _⟩ := hk.p
    refine ⟨_, rfl, Ad.p, dx, _, rfl, hp, rfl, _, rfl, Ad, nms, S, x, rfl, hk, w1, fun hx => ?_⟩
    refine ⟨_, rfl, Ad.p, dx, _, rfl, hp, rfl, _, rfl, Ad, nms, S, y, rfl, hk, w2 hx, fun hy => ?_⟩
    obtain ⟨dc, mv, jv, k1, k2, j0, rfl, k3⟩ := hk.cell x hx
    obtain ⟨dy, my, jy, l1, l2, j1, rfl, l3⟩ := hk.cell y hy
    obtain ⟨b1, b2, b7, b8, vb, rb⟩ := bg hx hy
    refine ⟨_, rfl, a, t, rfl, ha, w3 hx hy, fun ok => ?_⟩
    refine ⟨fun σ' H' => σ' = [some (.ref Ad.p), some (.str x), some (.ref a), some (.ref b), some (.str y), some (.ref (Ad.c x)), some (.ref (Ad.c y)), none, none, none, none, none] ∧ H = H' ∧ (g = 0 ∨ ShOk g), ?_, ?_⟩
    case' refine_2 =>
      refine ⟨_, rfl, dq g, .tuple [.int 0, .int 1], hb.dp, .tup (T.q_NOUGHT H) (.cons (.int _) (.cons (.int _) .nil)), rfl, rfl, _, rfl, ?_⟩
      rw [show PyData.eqv (dq g) (.tuple [.int 0, .int 1]) = decide (g = 0) from eqv_pair.trans is_zero]
      by_cases c : g = 0
      · rw [decide_eq_true c]
        exact ⟨rfl, rfl, .inl c⟩
      · rw [decide_eq_false c]
        exact ⟨_, rfl, b, g, rfl, hb, w4 hx hy ok c, fun og => ⟨rfl, rfl, .inr og⟩⟩
    rintro σ' H' ⟨rfl, rfl, og⟩
    refine ⟨_, rfl, _, rfl, Ad.c x, T.C_Kettle, dc, _, _, rfl, k1, T.L_Kettle, T.n_Kettle_juice, rfl, ?_⟩
    refine ⟨.str x, j0, _, _, rfl, k3, w5 hx hy ok og, fun nn H1 s1 => ?_⟩
    refine ⟨_, rfl, Ad.c x, T.C_Kettle, dc, _, _, rfl, s1 _ _ k1, T.L_Kettle, T.n_Kettle_juice, rfl, ?_⟩
    refine ⟨_, rfl, j0, a, _, _, t, rfl, k3.same s1, ha.same s1, b1, b2, b3, fun sk H2 s2 hsk => ?_⟩
    have s12 := s1.trans s2
    refine ⟨_, rfl, Ad.c x, T.C_Kettle, dc, _, _, rfl, s12 _ _ k1, T.L_Kettle, T.n_Kettle_juice, rfl, ?_⟩
    refine ⟨_, rfl, j0, a, _, _, t, rfl, k3.same s12, ha.same s12, b1, b2, b3, b4, fun le H3 s3 hle => ?_⟩
    have s13 := s12.trans s3
    refine ⟨_, rfl, _, rfl, sk, b, _, _, g, rfl, hsk.same s3, hb.same s13, b7, b8, b5, fun po H4 s4 hpo => ?_⟩
    have s14 := s13.trans s4
    obtain ⟨bj, hbj, eb, tb⟩ : ∃ bj, JuQ K H4 bj (Ke.bef S x y t).s (Ke.bef S x y t).w ∧ (x = y → bj = le) ∧ (x ≠ y → bj = j1) := by
      by_cases c : x = y
      · refine ⟨le, ?_, fun _ => rfl, fun n => absurd c n⟩
        unfold Ke.bef
        rw [if_pos c]
        exact hle.same s4
      · refine ⟨j1, ?_, fun n => absurd n c, fun _ => rfl⟩
        unfold Ke.bef
        rw [if_neg c]
        exact l3.same s14
    have er : (Ke.bef S x y t).room = (S.st y).room ∧ (Ke.bef S x y t).fire = (S.st y).fire ∧ (Ke.bef S x y t).mark = (S.st y).mark ∧ (Ke.bef S x y t).on = (S.st y).on := by
      unfold Ke.bef
      split
      · rename_i c
        rw [c]
        exact ⟨rfl, rfl, rfl, rfl⟩
      · exact ⟨rfl, rfl, rfl, rfl⟩
    have pour : ∀ {Q' : VK} {E' : XK}, (((Ke.bef S x y t).full ((S.st x).s * t * g) ((S.st x).w * t * g)) → Rf T.C_NoRoom "NoRoom" (.str y) H4 E') → (¬ ((Ke.bef S x y t).full ((S.st x).s * t * g) ((S.st x).w * t * g)) → ∀ z H', Same H4 H' → JuQ K H' z ((Ke.bef S x y t).s + (S.st x).s * t * g) ((Ke.bef S x y t).w + (S.st x).w * t * g) → Q' (.ref z) H') → sp_poured_into K T.C_NoRoom [.str y, .int (S.st y).room, .ref bj, .ref po] H4 Q' E' := fun {Q' E'} p1 p2 => by
      unfold Ke.full at p1 p2
      rw [er.1] at p1 p2
      exact ⟨.str y, (S.st y).room, bj, po, _, _, _, _, rfl, hbj, hpo, vb.a, vb.b, vb.c, vb.d, vb.e, vb.f, vb.g, rb, p1, p2⟩
    refine ⟨fun σ' H' => σ' = [some (.ref Ad.p), some (.str x), some (.ref a), some (.ref b), some (.str y), some (.ref (Ad.c x)), some (.ref (Ad.c y)), some (.ref sk), some (.ref le), some (.ref po), some (.ref bj), none] ∧ H4 = H', ?_, ?_⟩
    case' refine_2 =>
      refine ⟨_, rfl, _, rfl, rfl, _, rfl, ?_⟩
      by_cases c : V.str x = V.str y
      · rw [decide_eq_true c]
        refine ⟨_, rfl, ?_⟩
        rw [← eb (V.str.inj c)]
        exact ⟨rfl, rfl⟩
      · rw [decide_eq_false c]
        refine ⟨_, rfl, Ad.c y, T.C_Kettle, dy, _, _, rfl, s14 _ _ l1, T.L_Kettle, T.n_Kettle_juice, rfl, ?_⟩
        rw [← tb (fun e => c (by rw [e]))]
        exact ⟨rfl, rfl⟩
    rintro σ' H' ⟨rfl, rfl⟩
    refine ⟨_, rfl, _, rfl, Ad.c y, T.C_Kettle, dy, _, _, rfl, s14 _ _ l1, T.L_Kettle, T.n_Kettle_room, rfl, ?_⟩
    refine ⟨_, rfl, _, rfl, ?_⟩
    dsimp only [tNil, List.append_nil]
    refine pour (fun fu => w6 hx hy ok og nn fu H4 s14) fun nf z H5 s5 hz => ?_
    have s15 := s14.trans s5
    refine ⟨_, rfl, _, rfl, Ad.c x, T.C_Kettle, dc, _, rfl, s15 _ _ k1, T.L_Kettle, T.n_Kettle_juice, (by show 5 < 1000; decide), ?_⟩
    have of1 : Off K (· = Ad.c x) H5 _ := .put (s15 _ _ k1) .ins rfl (o2 := .ins T.C_Kettle dc (kf (S.st x).room (S.st x).fire mv (.ref le) (S.st x).on))
    have of : Off K (· = Ad.c x) H _ := (Off.same s15).seq of1
    have hk1 := hk.set hx of (k := (S.st x).out t) ⟨dc, mv, .ref le, upd_same, k2.tk of.tk, le, rfl, ((hle.same s4).same s5).tk of1.tk⟩
    obtain ⟨dz, mz, jz, z1, z2, z3⟩ := hk1.cell y hy
    have ey : (S.put x ((S.st x).out t)).st y = Ke.bef S x y t := by
      unfold Ke.bef
      by_cases c : x = y
      · rw [if_pos c, ← c]
        exact set1_same
      · rw [if_neg c]
        exact set1_ne fun e => c e.symm
    rw [ey] at z1 z2 z3
    refine ⟨_, rfl, _, rfl, Ad.c y, T.C_Kettle, dz, _, rfl, z1, T.L_Kettle, T.n_Kettle_juice, (by show 5 < 1000; decide), ?_⟩
    have og1 : Off K (· = Ad.c y) _ _ := .put z1 .ins rfl (o2 := .ins T.C_Kettle dz (kf (Ke.bef S x y t).room (Ke.bef S x y t).fire mz (.ref z) (Ke.bef S x y t).on))
    have hk2 := hk1.set hy og1 (k := (Ke.bef S x y t).inn ((S.st x).s * t * g) ((S.st x).w * t * g)) ⟨dz, mz, .ref z, upd_same, z2.tk og1.tk, z, rfl, (hz.tk of1.tk).tk og1.tk⟩
    have tks := ((TK.same (s3.trans (s4.trans s5)) : TK K H2 H5).trans of1.tk).trans og1.tk
    refine ⟨_, rfl, _, rfl, _, rfl, sk, b, _, _, g, rfl, hsk.tk tks, (hb.tk of.tk).tk og1.tk, b7, b8, b5, b6, fun re H6 s6 hre => ⟨rfl, fun tt H7 s7 n7 h7 => ?_⟩⟩
    have s67 := s6.trans s7
    exact w7 hx hy ok og nn nf tt H7 (hk2.same s67) ⟨po, re, SqT.of h7, (((hpo.same s5).tk of1.tk).tk og1.tk).same s67, hre.same s7⟩ (((of.mono fun a e => .inr ⟨x, hx, e⟩).seq (og1.mono fun a e => .inr ⟨y, hy, e⟩)).seq (.same s67))
  in #guard_msgs (pass all) in example : True := trivial

end
end KR
namespace KR
open PySem PySem.Spec PyProof.Rows L2
section
variable {P : Program} {w : World} {K : PySem.W.Frag} {mg : Str → Option Value} {base : Heap}
set_option Elab.async true in
theorem ok_Kettles_stop (T : All K mg) : FnOk P w K mg base (L2.CX P w) 4 T.f_Kettles_stop T.fd_Kettles_stop ["self", "kettle"] (sp_Kettles_work K T.C_Kettles T.C_Kettle T.C_NoKettle T.C_Stopped "Stopped" false) := by
  refine T.F_Kettles_stop.okX sc_Kettles_stop (fun vs H Q E h => ?_) (fun cdv A outer s H vs Q E hr h => ?_)
  · obtain ⟨A, nms, S, x, rfl, _⟩ := h
    rfl
  · obtain ⟨Ad, nms, S, x, rfl, hk, w1, w2, w3⟩ := h
    refine ⟨_, (pss_cons (ps_set (i := 2) sc_Kettles_stop.nd rfl (by first | exact Or.inl rfl | exact Or.inr rfl) (pe_meth (pv 0) T.L_Kettles T.m_Kettles__named (ok_Kettles__named T) hr T.b_Kettles__named .nil (passes_call (takes_of rfl rfl rfl rfl) (fun _ _ _ _ h => h)) (pa_cons (pv 1) pa_nil)))
      (pss_cons (ps_if (pt_not (pt_val (pe_fldK (K := K) rfl (pv 2) rfl))) (pss_one (ps_raise rfl (takes_of rfl rfl rfl rfl) (pmk_oex T.O_Stopped T.i_Stopped T.tI_Stopped (ok_init_Stopped T) (hr.mono (by decide)) T.bI_Stopped .nil pass0 rfl T.g_Stopped (by exact (pa_cons (pv 1) pa_nil))))) pss_nil)
      (pss_one (ps_fld (pv 2) pe_bl rfl)))), ?_⟩
    obtain ⟨dx, bv, hp, _⟩ := hk.p
    refine ⟨_, rfl, Ad.p, dx, _, rfl, hp, rfl, _, rfl, Ad, nms, S, x, rfl, hk, w1, fun hx => ?_⟩
    obtain ⟨dc, mv, jv, k1, k2, k3⟩ := hk.cell x hx
    refine ⟨_, rfl, Ad.c x, T.C_Kettle, dc, _, _, rfl, k1, T.L_Kettle, T.n_Kettle_at_work, rfl, _, rfl, ?_⟩
    cases ho : (S.st x).on with
    | false =>
      refine iteT ?_
      refine ⟨_, rfl, by show 1 ≤ 1000; decide, fun b hb => ⟨b, .str x, rfl, upd_same, fun d hd hne => ?_⟩⟩
      rw [upd_ne hne] at hd
      refine ⟨rfl, d, (wh "Stopped" (.str x)), upd_same, by rw [upd_ne hne, upd_same], hd, ?_⟩
      exact w2 hx ho d _ (raised_keeps (o1 := exo b T.C_Stopped none) (o2 := exd d (wh "Stopped" (.str x))) (o3 := exo b T.C_Stopped (some d)) (o4 := .xd (wh "Stopped" (.str x))) hb hd) upd_same
    | true =>
      refine iteF ?_
      refine ⟨_, rfl, Ad.c x, T.C_Kettle, dc, _, rfl, k1, T.L_Kettle, T.n_Kettle_at_work, (by show 5 < 1000; decide), ?_⟩
      have of : Off K (· = Ad.c x) H _ := .put k1 .ins rfl (o2 := .ins T.C_Kettle dc (kf (S.st x).room (S.st x).fire mv jv false))
      exact w3 hx (by rw [ho]; decide) _ (hk.set hx of ⟨dc, mv, jv, upd_same, k2.tk of.tk, k3.tk of.tk⟩) (of.mono fun a e => .inr ⟨x, hx, e⟩)
  in #guard_msgs (pass all) in example : True := trivial

end
end KR
namespace KR
open PySem PySem.Spec PyProof.Rows L2
section
variable {P : Program} {w : World} {K : PySem.W.Frag} {mg : Str → Option Value} {base : Heap}
set_option Elab.async true in
theorem ok_Kettles_start (T : All K mg) : FnOk P w K mg base (L2.CX P w) 4 T.f_Kettles_start T.fd_Kettles_start ["self", "kettle"] (sp_Kettles_work K T.C_Kettles T.C_Kettle T.C_NoKettle T.C_InWork "InWork" true) := by
  refine T.F_Kettles_start.okX sc_Kettles_start (fun vs H Q E h => ?_) (fun cdv A outer s H vs Q E hr h => ?_)
  · obtain ⟨A, nms, S, x, rfl, _⟩ := h
    rfl
  · obtain ⟨Ad, nms, S, x, rfl, hk, w1, w2, w3⟩ := h
    refine ⟨_, (pss_cons (ps_set (i := 2) sc_Kettles_start.nd rfl (by first | exact Or.inl rfl | exact Or.inr rfl) (pe_meth (pv 0) T.L_Kettles T.m_Kettles__named (ok_Kettles__named T) hr T.b_Kettles__named .nil (passes_call (takes_of rfl rfl rfl rfl) (fun _ _ _ _ h => h)) (pa_cons (pv 1) pa_nil)))
      (pss_cons (ps_if (pt_val (pe_fldK (K := K) rfl (pv 2) rfl)) (pss_one (ps_raise rfl (takes_of rfl rfl rfl rfl) (pmk_oex T.O_InWork T.i_InWork T.tI_InWork (ok_init_InWork T) (hr.mono (by decide)) T.bI_InWork .nil pass0 rfl T.g_InWork (by exact (pa_cons (pv 1) pa_nil))))) pss_nil)
      (pss_one (ps_fld (pv 2) pe_bl rfl)))), ?_⟩
    obtain ⟨dx, bv, hp, _⟩ := hk.p
    refine ⟨_, rfl, Ad.p, dx, _, rfl, hp, rfl, _, rfl, Ad, nms, S, x, rfl, hk, w1, fun hx => ?_⟩
    obtain ⟨dc, mv, jv, k1, k2, k3⟩ := hk.cell x hx
    refine ⟨_, rfl, Ad.c x, T.C_Kettle, dc, _, _, rfl, k1, T.L_Kettle, T.n_Kettle_at_work, rfl, _, rfl, ?_⟩
    cases ho : (S.st x).on with
    | true =>
      refine iteT ?_
      refine ⟨_, rfl, by show 1 ≤ 1000; decide, fun b hb => ⟨b, .str x, rfl, upd_same, fun d hd hne => ?_⟩⟩
      rw [upd_ne hne] at hd
      refine ⟨rfl, d, (wh "InWork" (.str x)), upd_same, by rw [upd_ne hne, upd_same], hd, ?_⟩
      exact w2 hx ho d _ (raised_keeps (o1 := exo b T.C_InWork none) (o2 := exd d (wh "InWork" (.str x))) (o3 := exo b T.C_InWork (some d)) (o4 := .xd (wh "InWork" (.str x))) hb hd) upd_same
    | false =>
      refine iteF ?_
      refine ⟨_, rfl, Ad.c x, T.C_Kettle, dc, _, rfl, k1, T.L_Kettle, T.n_Kettle_at_work, (by show 5 < 1000; decide), ?_⟩
      have of : Off K (· = Ad.c x) H _ := .put k1 .ins rfl (o2 := .ins T.C_Kettle dc (kf (S.st x).room (S.st x).fire mv jv true))
      exact w3 hx (by rw [ho]; decide) _ (hk.set hx of ⟨dc, mv, jv, upd_same, k2.tk of.tk, k3.tk of.tk⟩) (of.mono fun a e => .inr ⟨x, hx, e⟩)
  in #guard_msgs (pass all) in example : True := trivial

end
end KR
namespace KR
open PySem PySem.Spec PyProof.Rows L2
section
variable {P : Program} {w : World} {K : PySem.W.Frag} {mg : Str → Option Value} {base : Heap}
set_option Elab.async true in
theorem ok_Kettles_juice_of (T : All K mg) : FnOk P w K mg base (L2.CX P w) 4 T.f_Kettles_juice_of T.fd_Kettles_juice_of ["self", "kettle"] (sp_Kettles_juice K T.C_Kettles T.C_Kettle T.C_NoKettle) := by
  refine T.F_Kettles_juice_of.okX sc_Kettles_juice_of (fun vs H Q E h => ?_) (fun cdv A outer s H vs Q E hr h => ?_)
  · obtain ⟨A, nms, S, x, rfl, _⟩ := h
    rfl
  · obtain ⟨Ad, nms, S, x, rfl, hk, w1, w2⟩ := h
    refine ⟨_, (pss_one (ps_ret (pe_fldK (K := K) rfl (pe_meth (pv 0) T.L_Kettles T.m_Kettles__named (ok_Kettles__named T) hr T.b_Kettles__named .nil (passes_call (takes_of rfl rfl rfl rfl) (fun _ _ _ _ h => h)) (pa_cons (pv 1) pa_nil)) rfl))), ?_⟩
    obtain ⟨dx, bv, hp, _⟩ := hk.p
    refine ⟨_, rfl, Ad.p, dx, _, rfl, hp, rfl, _, rfl, Ad, nms, S, x, rfl, hk, w1, fun hx => ?_⟩
    obtain ⟨dc, mv, jv, k1, k2, jj, rfl, k3⟩ := hk.cell x hx
    exact ⟨Ad.c x, T.C_Kettle, dc, _, _, rfl, k1, T.L_Kettle, T.n_Kettle_juice, rfl, w2 hx jj k3⟩
  in #guard_msgs (pass all) in example : True := trivial

end
end KR
namespace KR
open PySem PySem.Spec PyProof.Rows L2
section
variable {P : Program} {w : World} {K : PySem.W.Frag} {mg : Str → Option Value} {base : Heap}
set_option Elab.async true in
theorem ok_Kettles_boiled_off (T : All K mg) : FnOk P w K mg base CX0 1 T.f_Kettles_boiled_off T.fd_Kettles_boiled_off ["self"] (sp_Kettles_gone K T.C_Kettles T.C_Kettle) := by
  refine T.F_Kettles_boiled_off.ok sc_Kettles_boiled_off (fun vs H Q E h => ?_) (fun cdv A outer s H vs Q E hr h => ?_)
  · obtain ⟨A, nms, S, rfl, _⟩ := h
    rfl
  · obtain ⟨Ad, nms, S, rfl, hk, q⟩ := h
    refine ⟨_, (pss_one (ps_ret (pe_fldK (K := K) rfl (pv 0) rfl))), ?_⟩
    obtain ⟨dx, bv, hp, b, rfl, hb⟩ := hk.p
    exact ⟨_, rfl, Ad.p, T.C_Kettles, dx, _, _, rfl, hp, T.L_Kettles, T.n_Kettles__boiled, rfl, q b hb⟩
  in #guard_msgs (pass all) in example : True := trivial

end
end KR
namespace KR
open PySem PySem.Spec PyProof.Rows L2
section
variable {P : Program} {w : World} {K : PySem.W.Frag} {mg : Str → Option Value} {base : Heap}
def sp_m_lshare (K : PySem.W.Frag) : Sp := fun vs H Q _ => ∃ (p : Addr) (n : Nat), vs = [.ref p] ∧ BoxAt H p n ∧ n ≤ 999999000 ∧ ∀ (a : Addr) (q : Rat) (H' : Hp), ShOk q → 0 < q → q ≤ 1 → FrQ K H' a q → BoxAt H' p (n + 2) → Fr p H H' → Q (.ref a) H'
set_option Elab.async true in
theorem ok_l_share (T : All K mg) : FnOk P w K mg base CX0 2 T.f_l_share T.fd_l_share ["_law_box_here"] (sp_m_lshare K) := by
  refine T.d_l_share.fn.ok sc_l_share (fun vs H Q E h => ?_) (fun cdv A outer s H vs Q E hr h => ?_)
  · obtain ⟨p, n, rfl, _⟩ := h
    rfl
  · obtain ⟨p, n, rfl, hB, hn, q⟩ := h
    refine ⟨_, (pss_cons (ps_set (i := 1) sc_l_share.nd rfl (by first | exact Or.inl rfl | exact Or.inr rfl) (pe_op op_add pe_int (pe_call (ok_l_take T) hr (by rfl) T.d_l_take.mg T.d_l_take.fn.kp T.d_l_take.b .nil pass0 (pa_cons (pv 0) (pa_cons pe_int pa_nil)))))
      (pss_one (ps_ret (pe_call (ok_l_low T) hr (by rfl) T.d_l_low.mg T.d_l_low.fn.kp T.d_l_low.b .nil pass0 (pa_cons (pe_op op_add pe_int (pe_call (ok_l_take T) hr (by rfl) T.d_l_take.mg T.d_l_take.fn.kp T.d_l_take.b .nil pass0 (pa_cons (pv 0) (pa_cons (pv 1) pa_nil)))) (pa_cons (pv 1) pa_nil)))))), ?_⟩
    refine ⟨_, rfl, p, 12, n, rfl, hB, by omega, by decide, by decide, fun z H1 z0 z1 B1 F1 => ?_⟩
    refine ⟨_, _, rfl, rfl, ?_⟩
    refine ⟨_, rfl, _, rfl, p, _, n + 1, rfl, B1, by omega, by omega, by omega, fun y H2 y0 y1 B2 F2 => ?_⟩
    refine ⟨_, _, rfl, rfl, _, rfl, ?_⟩
    refine ⟨_, _, rfl, by omega, lt_up (show (1 + y).natAbs < 2 ^ 10 by omega) (by decide), lt_up (show (1 + z).natAbs < 2 ^ 10 by omega) (by decide), fun a H3 s3 n3 h3 => ?_⟩
    have ok : ShOk (rq (1 + y) (1 + z)) := by
      refine ⟨num_pos.mpr (rq_pos (by omega) (by omega)), le_one_of (rq_le_one (by omega) (by omega)), ?_⟩
      have e := rq_low (t := 1 + y) (b := 1 + z) (by omega)
      have e2 : ((1 + z).natAbs : Int) / (Nat.gcd (1 + y).natAbs (1 + z).natAbs : Nat) = ((rq (1 + y) (1 + z)).den : Int) := congrArg Prod.snd e
      rw [← e2]
      have := Int.ediv_le_self ((Nat.gcd (1 + y).natAbs (1 + z).natAbs : Nat) : Int) (show (0 : Int) ≤ ((1 + z).natAbs : Int) by omega)
      omega
    exact q a _ _ ok (rq_pos (by omega) (by omega)) (rq_le_one (by omega) (by omega)) h3 (B2.same s3) (F1.trans (F2.trans (.of s3)))
  in #guard_msgs (pass all) in example : True := trivial

end
end KR
namespace KR
open PySem PySem.Spec PyProof.Rows L2
section
variable {P : Program} {w : World} {K : PySem.W.Frag} {mg : Str → Option Value} {base : Heap}
structure RkOk (z : RK) : Prop where
  nm : NmQ z.1
  r1 : 1 ≤ z.2.1
  r9 : z.2.1 ≤ 1000000
  f0 : 0 ≤ z.2.2.1
  f9 : z.2.2.1 ≤ 10000
  mo : MOk z.2.2.2
def sp_krow (K : PySem.W.Frag) : Sp := fun vs H Q _ => ∃ (b : Addr) (n many : Nat), vs = [.ref b, .int many, .int 0] ∧ 1 ≤ many ∧ many ≤ 8 ∧ BoxAt H b n ∧ n ≤ 900000000 ∧
  ∀ (a f o : Addr) (ks : List V) (rs : List RK) (H' : Hp), SqT K H' a [.ref f, .ref o] → H' f = some (.lst ks) → H' o = some (.lst []) → ks.length = rs.length → (∀ (j : Nat) (v : V) (z : RK), ks[j]? = some v → rs[j]? = some z → RkAt K H' v z) → (rs.map (·.1)).Nodup → rs.length = many → (∀ z ∈ rs, RkOk z) → f ≠ b → BoxAt H' b (n + 70) → Off K (· = b) H H' → Q (.ref a) H'
set_option Elab.async true in
theorem cutK {xs : List V} {k : Nat} (h : xs.length = k) : cutV xs none (some (k : Int)) = xs := by
  unfold cutV
  rw [HT.sIx_none, HT.sIx_nat, ← h, Nat.min_self]
  exact List.take_length
  in #guard_msgs (pass all) in example : True := trivial
set_option Elab.async true in
theorem cutK2 {xs : List V} {k : Nat} (h : xs.length = k) : cutV xs (some (k : Int)) none = [] := by
  unfold cutV
  rw [HT.sIx_none, HT.sIx_nat, ← h, Nat.min_self, List.drop_length]
  exact List.take_nil
  in #guard_msgs (pass all) in example : True := trivial
set_option Elab.async true in
theorem ok_l_row (T : All K mg) : FnOk P w K mg base CX0 8 T.f_l_row T.fd_l_row ["_law_box_here", "_law_kettles", "_law_moulds"] (sp_krow K) := by
  refine T.d_l_row.fn.ok sc_l_row (fun vs H Q E h => ?_) (fun cdv A outer s H vs Q E hr h => ?_)
  · obtain ⟨b, n, many, rfl, _⟩ := h
    rfl
  obtain ⟨p, n, many, rfl, m1, m8, hB, hn, q⟩ := h
  refine ⟨_, (pss_cons (ps_par3 (i := 3) (j := 4) (l := 5) (by rfl) sc_l_row.nd rfl rfl rfl (by decide) (by decide) (by decide) rfl rfl rfl (pa_cons (pe_call (ok_l_names T) (hr.mono (by decide)) (by rfl) T.d_l_names.mg T.d_l_names.fn.kp T.d_l_names.b .nil pass0 (pa_cons (pv 0) (pa_cons (pe_op op_add (pv 1) (pv 2)) pa_nil))) (pa_cons (pe_lstI pa_nil) (pa_cons (pe_lstI pa_nil) pa_nil))) (by rfl))
      (pss_cons (ps_for PassesOwn.never rfl (pi_listK (K := K) rfl (pe_slice (slL (K := K) rfl) (pv 3) po_none (po_some (pv 1)))) (pg_name (i := 6) sc_l_row.nd rfl (by first | exact Or.inl rfl | exact Or.inr rfl)) (pss_cons (ps_set (i := 7) sc_l_row.nd rfl (by first | exact Or.inl rfl | exact Or.inr rfl) (pe_op op_add pe_int (pe_call (ok_l_take T) (hr.mono (by decide)) (by rfl) T.d_l_take.mg T.d_l_take.fn.kp T.d_l_take.b .nil pass0 (pa_cons (pv 0) (pa_cons (pe_ix (ixL (K := K) rfl) (pe_lstI (pa_cons pe_int (pa_cons pe_int pa_nil))) (pe_call (ok_l_take T) (hr.mono (by decide)) (by rfl) T.d_l_take.mg T.d_l_take.fn.kp T.d_l_take.b .nil pass0 (pa_cons (pv 0) (pa_cons pe_int pa_nil))) (fun _ _ => rfl)) pa_nil)))))
      (pss_cons (ps_set (i := 8) sc_l_row.nd rfl (by first | exact Or.inl rfl | exact Or.inr rfl) (pe_call (ok_l_low T) (hr.mono (by decide)) (by rfl) T.d_l_low.mg T.d_l_low.fn.kp T.d_l_low.b .nil pass0 (pa_cons (pe_op op_add pe_int (pe_call (ok_l_take T) (hr.mono (by decide)) (by rfl) T.d_l_take.mg T.d_l_take.fn.kp T.d_l_take.b .nil pass0 (pa_cons (pv 0) (pa_cons (pe_op op_sub (pv 7) pe_int) pa_nil)))) (pa_cons (pv 7) pa_nil))))
      (pss_cons (ps_set (i := 9) sc_l_row.nd rfl (by first | exact Or.inl rfl | exact Or.inr rfl) (pe_op op_add pe_int (pe_call (ok_l_take T) (hr.mono (by decide)) (by rfl) T.d_l_take.mg T.d_l_take.fn.kp T.d_l_take.b .nil pass0 (pa_cons (pv 0) (pa_cons (pe_ix (ixL (K := K) rfl) (pe_lstI (pa_cons pe_int (pa_cons (pe_op op_pow pe_int pe_int) (pa_cons (pe_op op_pow pe_int pe_int) pa_nil)))) (pe_call (ok_l_take T) (hr.mono (by decide)) (by rfl) T.d_l_take.mg T.d_l_take.fn.kp T.d_l_take.b .nil pass0 (pa_cons (pv 0) (pa_cons pe_int pa_nil))) (fun _ _ => rfl)) pa_nil)))))
      (pss_one (ps_expr (pe_bm PySem.F.plainAttrs_list PySem.F.slot_list_append PySem.F.type_list_append mt_append (pv 4) (pa_cons (pe_tupI (pa_cons (pv 6) (pa_cons (pv 9) (pa_cons (pe_call (ok_l_take T) (hr.mono (by decide)) (by rfl) T.d_l_take.mg T.d_l_take.fn.kp T.d_l_take.b .nil pass0 (pa_cons (pv 0) (pa_cons (pe_ix (ixL (K := K) rfl) (pe_lstI (pa_cons pe_int (pa_cons pe_int (pa_cons pe_int pa_nil)))) (pe_call (ok_l_take T) (hr.mono (by decide)) (by rfl) T.d_l_take.mg T.d_l_take.fn.kp T.d_l_take.b .nil pass0 (pa_cons (pv 0) (pa_cons pe_int pa_nil))) (fun _ _ => rfl)) pa_nil))) (pa_cons (pv 8) pa_nil))))) pa_nil))))))))
      (pss_cons (ps_for PassesOwn.never rfl (pi_listK (K := K) rfl (pe_slice (slL (K := K) rfl) (pv 3) (po_some (pv 1)) po_none)) (pg_name (i := 6) sc_l_row.nd rfl (by first | exact Or.inl rfl | exact Or.inr rfl)) (pss_cons (ps_set (i := 7) sc_l_row.nd rfl (by first | exact Or.inl rfl | exact Or.inr rfl) (pe_op op_add pe_int (pe_call (ok_l_take T) (hr.mono (by decide)) (by rfl) T.d_l_take.mg T.d_l_take.fn.kp T.d_l_take.b .nil pass0 (pa_cons (pv 0) (pa_cons pe_int pa_nil)))))
      (pss_cons (ps_set (i := 9) sc_l_row.nd rfl (by first | exact Or.inl rfl | exact Or.inr rfl) (pe_op op_add pe_int (pe_call (ok_l_take T) (hr.mono (by decide)) (by rfl) T.d_l_take.mg T.d_l_take.fn.kp T.d_l_take.b .nil pass0 (pa_cons (pv 0) (pa_cons (pe_ix (ixL (K := K) rfl) (pe_lstI (pa_cons pe_int (pa_cons (pe_op op_pow pe_int pe_int) (pa_cons (pe_op op_pow pe_int pe_int) pa_nil)))) (pe_call (ok_l_take T) (hr.mono (by decide)) (by rfl) T.d_l_take.mg T.d_l_take.fn.kp T.d_l_take.b .nil pass0 (pa_cons (pv 0) (pa_cons pe_int pa_nil))) (fun _ _ => rfl)) pa_nil)))))
      (pss_one (ps_expr (pe_bm PySem.F.plainAttrs_list PySem.F.slot_list_append PySem.F.type_list_append mt_append (pv 5) (pa_cons (pe_tupI (pa_cons (pv 6) (pa_cons (pv 9) (pa_cons (pe_call (ok_l_low T) (hr.mono (by decide)) (by rfl) T.d_l_low.mg T.d_l_low.fn.kp T.d_l_low.b .nil pass0 (pa_cons (pe_call (ok_l_take T) (hr.mono (by decide)) (by rfl) T.d_l_take.mg T.d_l_take.fn.kp T.d_l_take.b .nil pass0 (pa_cons (pv 0) (pa_cons (pv 7) pa_nil))) (pa_cons (pv 7) pa_nil))) pa_nil)))) pa_nil)))))))
      (pss_one (ps_ret (pe_tupI (pa_cons (pv 4) (pa_cons (pv 5) pa_nil)))))))), ?_⟩
  refine ⟨_, rfl, _, rfl, _, rfl, _, _, rfl, rfl, p, n, many, ?_, by omega, by omega, hB, by omega, fun l ts H1 hl lt nd nmt B1 F1 => ?_⟩
  · show [V.ref p, V.int ((many : Int) + 0)] = [V.ref p, V.int (many : Int)]
    rw [Int.add_zero]
  refine ⟨rfl, fun fl H2 s2 n2 h2 => ⟨rfl, fun ol H2b s2b n2b h2b => ⟨_, _, _, rfl, ?_⟩⟩⟩
  have lp : l ≠ p := fun z => by
    obtain ⟨a, b, c, h1, _⟩ := B1
    rw [← z, hl] at h1
    cases ts with
    | nil => simp at lt; omega
    | cons y r => cases h1
  have flp : fl ≠ p := B1.new n2
  have olp : ol ≠ p := (B1.same s2).new n2b
  have lfl : l ≠ fl := ne_of_none hl n2
  have ofl : ol ≠ fl := (ne_of_none h2 n2b).symm
  have s2c := s2.trans s2b
  have hl2 := s2c _ _ hl
  have hf2 := s2b _ _ h2
  have o2 : Off K (· = p) H H2b := (Off.box hB F1).seq (.same s2c)
  refine ⟨_, rfl, _, rfl, _, rfl, l, _, rfl, SqL.of hl2, fun sl H3 s3 n3 h3 => ?_⟩
  rw [cutK (by rw [List.length_map, lt])] at h3
  have slp : sl ≠ p := (B1.same s2c).new n3
  have slf : sl ≠ fl := (ne_of_none hf2 n3).symm
  have B3 : BoxAt H3 p (n + 6) := (B1.same s2c).same s3
  refine ⟨sl, rfl, ⟨_, SqL.of h3⟩, ?_⟩
  refine for_list (K := K) (a := sl) (xs := ts.map V.str) (fun i σ H' => ∃ (v6 v7 v8 v9 : Option V) (ks : List V) (rs : List RK), σ = [some (.ref p), some (.int many), some (.int 0), some (.ref l), some (.ref fl), some (.ref ol), v6, v7, v8, v9] ∧ BoxAt H' p (n + 6 + 7 * i) ∧ Off K (fun a => a = p ∨ a = fl) H3 H' ∧ H' fl = some (.lst ks) ∧ ks.length = i ∧ rs.length = i ∧ rs.map (·.1) = ts.take i ∧ (∀ (j : Nat) (v : V) (z : RK), ks[j]? = some v → rs[j]? = some z → RkAt K H' v z) ∧ ∀ z ∈ rs, RkOk z) ⟨none, none, none, none, [], [], rfl, B3, .refl, s3 _ _ hf2, rfl, rfl, rfl, fun j v z a _ => by simp at a, fun z hz => absurd hz List.not_mem_nil⟩ (fun i σ H' _ ⟨_, _, _, _, _, _, _, _, oi, _⟩ => SqL.of (oi.lst (fun z => z.elim slp slf) h3)) ?_ ?_
  · rintro i v σ H' hi ⟨v6, v7, v8, v9, ks, rs, rfl, Bi, oi, hf, lk, lr, er, hr, ho⟩
    rw [List.getElem?_map] at hi
    obtain ⟨x, hx, rfl⟩ : ∃ x, ts[i]? = some x ∧ v = V.str x := by
      cases e : ts[i]? with
      | none => rw [e] at hi; cases hi
      | some k => rw [e] at hi; exact ⟨k, rfl, (Option.some.inj hi).symm⟩
    have ilt := (List.getElem?_eq_some_iff.mp hx).1
    have nmx : NmQ x := nmt x (List.mem_of_getElem? hx)
    refine ⟨_, rfl, rfl, fun L1 H4 s4 n4 h4 => ⟨_, rfl, p, 2, _, rfl, Bi.same s4, by omega, by decide, by decide, fun z H5 z0 z1 B5 F5 => ?_⟩⟩
    obtain ⟨c, ec, c1, c9⟩ : ∃ c : Int, atI [V.int 5, V.int 59] z = some (.int c) ∧ 1 ≤ c ∧ c ≤ 59 := by
      rcases (by omega : z = 0 ∨ z = 1) with rfl | rfl
      · exact ⟨_, at0, by decide, by decide⟩
      · exact ⟨_, at1, by decide, by decide⟩
    refine ⟨L1, _, z, _, rfl, rfl, SqL.of (F5 _ _ (Bi.new n4) h4), ec, p, c, _, rfl, B5, by omega, by omega, by omega, fun y H6 y0 y1 B6 F6 => ⟨_, _, rfl, rfl, ?_⟩⟩
    have o6 : Off K (· = p) H' H6 := ((Off.same s4).seq (.box (Bi.same s4) F5)).seq (.box B5 F6)
    refine ⟨_, rfl, _, rfl, _, _, rfl, rfl, p, 2 + y - 1, _, rfl, B6, by omega, by omega, by omega, fun t H7 t0 t1 B7 F7 => ⟨_, _, rfl, rfl, ?_⟩⟩
    refine ⟨_, rfl, 1 + t, 2 + y, rfl, by omega, lt_up (show (1 + t).natAbs < 2 ^ 20 by omega) (by decide), lt_up (show (2 + y).natAbs < 2 ^ 20 by omega) (by decide), fun mk H8 s8 n8 hmk => ?_⟩
    have o8 : Off K (· = p) H' H8 := (o6.seq (.box B6 F7)).seq (.same s8)
    have B8 := B7.same s8
    refine ⟨_, rfl, _, _, rfl, rfl, ⟨by decide, by decide, by decide⟩, _, _, rfl, rfl, ⟨by decide, by decide, by decide⟩, rfl, fun L2 H9 s9 n9 h9 => ⟨_, rfl, p, 3, _, rfl, B8.same s9, by omega, by decide, by decide, fun z2 Ha za zb Ba Fa => ?_⟩⟩
    have h9' : H9 L2 = some (.lst [.int 100, .int 10000, .int 1000000]) := h9
    obtain ⟨c2, ec2, c21, c29⟩ : ∃ c : Int, atI [V.int 100, V.int 10000, V.int 1000000] z2 = some (.int c) ∧ 1 ≤ c ∧ c ≤ 1000000 := by
      rcases (by omega : z2 = 0 ∨ z2 = 1 ∨ z2 = 2) with rfl | rfl | rfl
      · exact ⟨_, at0, by decide, by decide⟩
      · exact ⟨_, at1, by decide, by decide⟩
      · exact ⟨_, at2, by decide, by decide⟩
    refine ⟨L2, _, z2, _, rfl, rfl, SqL.of (Fa _ _ (B8.new n9) h9'), ec2, p, c2, _, rfl, Ba, by omega, by omega, by omega, fun r Hb r0 r1 Bb Fb => ⟨_, _, rfl, rfl, ?_⟩⟩
    have ob : Off K (· = p) H' Hb := ((o8.seq (.same s9)).seq (.box (B8.same s9) Fa)).seq (.box Ba Fb)
    have fb := ob.lst flp hf
    refine ⟨_, rfl, .inl ⟨rfl, _, SqL.of fb⟩, ?_⟩
    refine ⟨_, rfl, _, rfl, _, rfl, rfl, fun L3 Hc sc nc hc => ⟨_, rfl, p, 3, _, rfl, Bb.same sc, by omega, by decide, by decide, fun z3 Hd zd ze Bd Fd => ?_⟩⟩
    obtain ⟨c3, ec3, c31, c39⟩ : ∃ c : Int, atI [V.int 4, V.int 60, V.int 10001] z3 = some (.int c) ∧ 1 ≤ c ∧ c ≤ 10001 := by
      rcases (by omega : z3 = 0 ∨ z3 = 1 ∨ z3 = 2) with rfl | rfl | rfl
      · exact ⟨_, at0, by decide, by decide⟩
      · exact ⟨_, at1, by decide, by decide⟩
      · exact ⟨_, at2, by decide, by decide⟩
    refine ⟨L3, _, z3, _, rfl, rfl, SqL.of (Fd _ _ (Bb.new nc) hc), ec3, p, c3, _, rfl, Bd, by omega, by omega, by omega, fun fr He f0 f1 Be Fe => ?_⟩
    refine ⟨_, rfl, rfl, fun tp Hf sf nf hff => ?_⟩
    have of_ : Off K (· = p) H' Hf := (((ob.seq (.same sc)).seq (.box (Bb.same sc) Fd)).seq (.box Bd Fe)).seq (.same sf)
    have ff := of_.lst flp hf
    refine ⟨fl, _, _, rfl, rfl, ff, small' (by omega), ?_⟩
    have tk8 : TK K Hf (upd Hf fl (.lst (ks ++ [.ref tp]))) := TK.upd ff (fun _ y => by cases y) (fun _ _ y => by cases y)
    have o8f : Off K (· = p) H8 Hf := ((((((Off.same s9).seq (.box (B8.same s9) Fa)).seq (.box Ba Fb)).seq (.same sc)).seq (.box (Bb.same sc) Fd)).seq (.box Bd Fe)).seq (.same sf)
    have new : RkAt K (upd Hf fl (.lst (ks ++ [.ref tp]))) (.ref tp) (x, 1 + r, fr, rq (1 + t) (2 + y)) := RkAt.tk ⟨tp, .ref mk, rfl, SqT.of hff, mk, rfl, hmk.tk o8f.tk⟩ tk8
    have okn : RkOk (x, 1 + r, fr, rq (1 + t) (2 + y)) := ⟨nmx, by show 1 ≤ 1 + r; omega, by show 1 + r ≤ 1000000; omega, f0, by show fr ≤ 10000; omega, ⟨rq_pos (by omega) (by omega), rq_lt_one (by omega) (by omega), by have := den_le (t := 1 + t) (b := 2 + y) (by omega); show (rq (1 + t) (2 + y)).den ≤ 60; omega⟩⟩
    refine ⟨_, _, _, _, ks ++ [.ref tp], rs ++ [(x, 1 + r, fr, rq (1 + t) (2 + y))], rfl, ?_, ?_, upd_same, by rw [List.length_append, lk] <;> rfl, by rw [List.length_append, lr] <;> rfl, by rw [List.map_append, er, take_one hx] <;> rfl, fun j v w a b => ?_, fun w hw => ?_⟩
    · exact (((Be.same sf).upd flp).mono (by omega))
    · exact (oi.seq (of_.mono fun _ z => .inl z)).trans (Off.put (R := (· = fl)) ff .lst rfl) fun a z => .inl (.inr z)
    · by_cases c : j < ks.length
      · rw [List.getElem?_append_left c] at a
        rw [List.getElem?_append_left (by omega)] at b
        exact ((hr j v w a b).tk of_.tk).tk tk8
      · have hj : j = ks.length := by
          have := (List.getElem?_eq_some_iff.mp a).1
          rw [List.length_append, List.length_singleton] at this
          omega
        rw [List.getElem?_append_right (by omega), hj, Nat.sub_self] at a
        rw [List.getElem?_append_right (by omega), hj, lk, lr, Nat.sub_self] at b
        cases a
        cases b
        exact new
    · rcases List.mem_append.mp hw with h | h
      · exact ho w h
      · rw [List.mem_singleton.mp h]
        exact okn
  · rintro σ H' ⟨v6, v7, v8, v9, ks, rs, rfl, Bi, oi, hf, lk, lr, er, hr', ho⟩
    have e0 : (ts.map V.str).length = many := by rw [List.length_map, lt]
    rw [e0] at Bi lk lr er
    rw [List.take_of_length_le (by omega)] at er
    have hl' := oi.lst (fun z => z.elim lp lfl) (s3 _ _ hl2)
    have ho' := oi.lst (fun z => z.elim olp ofl) (s3 _ _ h2b)
    refine ⟨_, rfl, _, rfl, _, rfl, l, _, rfl, SqL.of hl', fun sl2 H4 s4 n4 h4 => ?_⟩
    rw [cutK2 e0] at h4
    refine ⟨sl2, rfl, ⟨_, SqL.of h4⟩, ?_⟩
    refine for_list (K := K) (a := sl2) (xs := []) (fun i σ' G => σ' = [some (.ref p), some (.int many), some (.int 0), some (.ref l), some (.ref fl), some (.ref ol), v6, v7, v8, v9] ∧ Same H4 G) ⟨rfl, .refl _⟩ (fun i σ' G _ z => SqL.of (z.2 _ _ h4)) (fun i v σ' G hi _ => by simp at hi) ?_
    rintro σ' G ⟨rfl, sG⟩
    refine ⟨_, rfl, _, rfl, rfl, fun a H5 s5 n5 h5 => ?_⟩
    have s45 := s4.trans (sG.trans s5)
    have fl0 : H fl = none := by
      obtain ⟨o, hob⟩ := B1.some
      exact F1.free hob n2
    have oH : Off K (· = p) H H' := (o2.seq (.same s3)).trans oi (fun a z => z.elim .inl fun z => .inr (.of (by rw [z]; exact fl0)))
    exact q a fl ol ks rs H5 (SqT.of h5) (s45 _ _ hf) (s45 _ _ ho') (by omega) (fun j v z a b => (hr' j v z a b).tk (.same s45)) (by rw [er]; exact nd) lr ho flp ((Bi.same s45).mono (by omega)) (oH.seq (.same s45))
  in #guard_msgs (pass all) in example : True := trivial

end
end KR
namespace KR
open PySem PySem.Spec PyProof.Rows L2
section
variable {P : Program} {w : World} {K : PySem.W.Frag} {mg : Str → Option Value} {base : Heap}
set_option Elab.async true in
theorem ok_l_less (T : All K mg) : FnOk P w K mg base CX0 1 T.f_l_less T.fd_l_less ["_law_one", "_law_other"] (sp_lessB K) := by
  refine T.d_l_less.fn.ok sc_l_less (fun vs H Q E h => ?_) (fun cdv A outer s H vs Q E hr h => ?_)
  · obtain ⟨x, y, p, q, rfl, _⟩ := h
    rfl
  · obtain ⟨x, y, p, q, rfl, hx, hy, zp, zq, k⟩ := h
    have hx' : SqT K H x [.int p.num, .int (p.den : Int)] := hx
    have hy' : SqT K H y [.int q.num, .int (q.den : Int)] := hy
    refine ⟨_, (pss_one (ps_ret (pe_cmpR op_lt (pe_op op_mulX (pe_ix (ixT (K := K) rfl) (pv 0) pe_int (fun _ _ => rfl)) (pe_ix (ixT (K := K) rfl) (pv 1) pe_int (fun _ _ => rfl))) (pe_op op_mulX (pe_ix (ixT (K := K) rfl) (pv 1) pe_int (fun _ _ => rfl)) (pe_ix (ixT (K := K) rfl) (pv 0) pe_int (fun _ _ => rfl))) (nomark _)))), ?_⟩
    obtain ⟨a1, a2⟩ := zp
    obtain ⟨b1, b2⟩ := zq
    refine ⟨_, rfl, x, _, 0, _, rfl, rfl, hx', at0, _, rfl, y, _, 1, _, rfl, rfl, hy', at1, _, _, rfl, rfl, mulZ a1 b2 (by omega), ?_⟩
    refine ⟨_, rfl, y, _, 0, _, rfl, rfl, hy', at0, _, rfl, x, _, 1, _, rfl, rfl, hx', at1, _, _, rfl, rfl, mulZ b1 a2 (by omega), _, _, rfl, rfl, ?_⟩
    have e : decide (p.num * (q.den : Int) < q.num * (p.den : Int)) = decide (p < q) := by
      rw [decide_eq_decide]
      exact lt_cross p q
    show Q (.bl (decide (p.num * (q.den : Int) < q.num * (p.den : Int)))) H
    rw [e]
    exact k
  in #guard_msgs (pass all) in example : True := trivial

end
end KR
namespace KR
open PySem PySem.Spec PyProof.Rows L2
section
variable {P : Program} {w : World} {K : PySem.W.Frag} {mg : Str → Option Value} {base : Heap}
set_option Elab.async true in
theorem marks_L : ∀ {rs : List RK}, (∀ z ∈ rs, RkOk z) → ∃ L : Nat, 0 < L ∧ L ≤ 60 ^ rs.length ∧ ∀ z ∈ rs, z.2.2.2.num.natAbs ∣ L
  | [], _ => ⟨1, by decide, by decide, fun z hz => absurd hz List.not_mem_nil⟩
  | z :: r, h => by
    obtain ⟨L, l0, l9, ld⟩ := marks_L fun w hw => h w (List.mem_cons_of_mem _ hw)
    have mo := (h z List.mem_cons_self).mo
    obtain ⟨n0, n1⟩ := mo.num
    have d := mo.ud
    refine ⟨z.2.2.2.num.natAbs * L, Nat.mul_pos (by omega) l0, ?_, fun w hw => ?_⟩
    · rw [List.length_cons, Nat.pow_succ, Nat.mul_comm (60 ^ r.length)]
      exact Nat.mul_le_mul (by omega) l9
    · rcases List.mem_cons.mp hw with e | e
      · rw [e]
        exact Nat.dvd_mul_right _ _
      · exact Nat.dvd_trans (ld w e) (Nat.dvd_mul_left _ _)
  in #guard_msgs (pass all) in example : True := trivial
set_option Elab.async true in
theorem rk_ket {K : PySem.W.Frag} {H : Hp} {v : V} {z : RK} (h : RkAt K H v z) (o : RkOk z) : KetAt K H v z.1 (.tuple [.str z.1, .int z.2.1, .int z.2.2.1, dq z.2.2.2]) := by
  obtain ⟨t, dv, rfl, h1, m, rfl, h2⟩ := h
  have lo := rat_low z.2.2.2
  obtain ⟨n0, n1⟩ := o.mo.num
  exact ⟨t, m, z.2.1, z.2.2.1, z.2.2.2.num, (z.2.2.2.den : Int), rfl, h1, h2, ⟨o.nm.nm, o.r1, o.r9, o.f0, o.f9, n0, n1, by have := o.mo.ud; omega, lo.cop⟩, rfl⟩
  in #guard_msgs (pass all) in example : True := trivial
set_option Elab.async true in
theorem begun_inv {rs : List RK} {st : Str → Ke} (k : KtOf st rs) (h : ∀ z ∈ rs, RkOk z) (l8 : rs.length ≤ 8) : KInv (rs.map (·.1)) 0 ⟨st, 0, 0⟩ := by
  obtain ⟨L, l0, l9, ld⟩ := marks_L h
  refine ⟨⟨B60, L, by decide +kernel, Nat.dvd_refl _, by rw [Nat.pow_zero, Nat.mul_one]; exact Nat.le_refl _, l0, Nat.le_trans l9 (Nat.pow_le_pow_right (by decide) l8), fun x hx => ?_, Dv.zero⟩, Rat.le_refl, ?_, Nat.zero_le _, by rw [List.length_map]; exact l8⟩
  · obtain ⟨z, hz, rfl⟩ := List.mem_map.mp hx
    have o := h z hz
    show KOk B60 L (st z.1)
    rw [k z hz]
    exact ⟨o.r1, o.r9, o.f0, o.f9, o.mo, ld z hz, Rat.le_refl, Rat.le_refl, by
      have a := Rat.intCast_le_intCast.mpr (Int.le_trans (by decide : (0 : Int) ≤ 1) o.r1)
      have e0 : ((0 : Int) : Rat) = 0 := rfl
      show (0 : Rat) + 0 ≤ (z.2.1 : Rat)
      grind, Dv.zero, Dv.zero⟩
  · show (0 : Rat) ≤ (((8000000 * 0 : Nat) : Int) : Rat)
    exact Rat.le_refl
  in #guard_msgs (pass all) in example : True := trivial
def sp_kbegun (T : All K mg) : Sp := fun vs H Q _ => ∃ (b : Addr) (n many : Nat), vs = [.ref b, .int many] ∧ 1 ≤ many ∧ many ≤ 8 ∧ BoxAt H b n ∧ n ≤ 900000000 ∧ Tbs T.Ps H ∧
  ∀ (a : Addr) (A : KAd) (B : LKA) (nms : List Str) (S : KS) (H' : Hp), SqT K H' a [.ref A.p, .ref B.a] → KettlesAt K T.C_Kettles T.C_Kettle H' A nms S → LKAt K H' B nms S → KInv nms 0 S → (∀ x ∈ nms, (S.st x).s = 0 ∧ (S.st x).w = 0) → nms.Nodup → nms.length = many → KLay nms → (∀ c, KQ A nms c → ¬ LKQ B nms c ∧ Nw H c) → (∀ c, LKQ B nms c → Nw H c) → BoxAt H' b (n + 70) → Off K (· = b) H H' → Q (.ref a) H'
set_option Elab.async true in
theorem ok_l_begun (T : All K mg) (B : Tabs T base) : FnOk P w K mg base CX0 9 T.f_l_begun T.fd_l_begun ["_law_box_here", "_law_many"] (sp_kbegun T) := by
  refine T.d_l_begun.fn.ok sc_l_begun (fun vs H Q E h => ?_) (fun cdv A outer s H vs Q E hr h => ?_)
  · obtain ⟨b, n, many, rfl, _⟩ := h
    rfl
  obtain ⟨b, n, many, rfl, m1, m8, hB, hn, hT, q⟩ := h
  refine ⟨_, (pss_cons (ps_asg (pe_call (ok_l_row T) hr (by rfl) T.d_l_row.mg T.d_l_row.fn.kp T.d_l_row.b .nil pass0 (pa_cons (pv 0) (pa_cons (pv 1) (pa_cons pe_int pa_nil)))) (pg_tupK (K := K) rfl rfl (pgs_cons (pg_name (i := 2) sc_l_begun.nd rfl (by first | exact Or.inl rfl | exact Or.inr rfl)) (pgs_cons (pg_name (i := 3) sc_l_begun.nd rfl (by first | exact Or.inl rfl | exact Or.inr rfl)) pgs_nil))))
      (pss_cons (ps_set (i := 4) sc_l_begun.nd rfl (by first | exact Or.inl rfl | exact Or.inr rfl) (pe_disp (pps_cons pe_str pe_int (pps_cons pe_str (pe_tupI (pa_cons pe_int (pa_cons pe_int pa_nil))) (pps_cons pe_str pe_dnewK pps_nil))) rfl rfl (by simp) (by decide)))
      (pss_cons (ps_for PassesOwn.never rfl (pi_listK (K := K) rfl (pv 2)) (pg_tupK (K := K) rfl rfl (pgs_cons (pg_name (i := 5) sc_l_begun.nd rfl (by first | exact Or.inl rfl | exact Or.inr rfl)) (pgs_cons (pg_name (i := 6) sc_l_begun.nd rfl (by first | exact Or.inl rfl | exact Or.inr rfl)) (pgs_cons (pg_name (i := 7) sc_l_begun.nd rfl (by first | exact Or.inl rfl | exact Or.inr rfl)) (pgs_cons (pg_name (i := 8) sc_l_begun.nd rfl (by first | exact Or.inl rfl | exact Or.inr rfl)) pgs_nil))))) (pss_one (ps_asg (pe_lstI (pa_cons (pv 6) (pa_cons (pv 7) (pa_cons (pv 8) (pa_cons (pe_tupI (pa_cons pe_int (pa_cons pe_int pa_nil))) (pa_cons (pe_tupI (pa_cons pe_int (pa_cons pe_int pa_nil))) (pa_cons pe_bl pa_nil))))))) (pg_sub (pe_dget (hu_of hr) (pv 4) pe_str (fun _ _ => rfl)) (pv 5) (set_dict (hu_of hr))))))
      (pss_one (ps_ret (pe_tupI (pa_cons (pe_make T.M_Kettles (ok_Kettles_init T) (hr.mono (by decide)) (by rfl) T.g_Kettles T.b_Kettles_init .nil pass0 (pa_cons (pe_make T.M_Row (ok_Row_init T B) hr (by rfl) T.g_Row T.b_Row_init .nil pass0 (pa_cons (pe_callTy (listI (K := K) rfl) (by rfl) T.b_list (by decide +kernel) (pa_cons (pv 2) pa_nil)) (pa_cons (pe_lstI pa_nil) pa_nil))) pa_nil)) (pa_cons (pv 4) pa_nil)))))))), ?_⟩
  refine ⟨_, rfl, _, rfl, b, n, many, rfl, m1, m8, hB, hn, fun ra f o ks rs H1 hra hf ho lk hr' nd lr rok fb B1 o1 => ?_⟩
  refine ⟨ra, _, rfl, hra, rfl, _, _, rfl, _, _, rfl, rfl, ?_⟩
  refine fun da nda => ?_
  refine ⟨rfl, fun g H2 s2 n2 hg => ?_⟩
  refine fun rd nrd => ?_
  have dr : da ≠ rd := ne_of_none (s2 _ _ upd_same) nrd
  have emk : mergeK [] [(kN "hour", V.int 0), (kN "gone", .ref g), (kN "rows", .ref rd)] = skv 0 (.ref g) rd := by
    unfold skv
    rfl
  have fda : H1 f ≠ none := by rw [hf]; intro z; cases z
  refine ⟨by rw [upd_ne dr]; exact s2 _ _ upd_same, [(kN "hour", .int 0), (kN "gone", .ref g), (kN "rows", .ref rd)], rfl, (by show 3 ≤ 15; decide), ?_⟩
  rw [emk]
  have sA : Same H1 (upd (upd H2 rd (.dK [])) da (.dK (skv 0 (.ref g) rd))) := fun a u e => by
    have n1 : a ≠ da := fun z => by rw [z, nda] at e; cases e
    rw [upd_ne n1]
    have e2 := s2 _ _ (show (upd H1 da (.dK [])) a = some u by rw [upd_ne n1]; exact e)
    rw [upd_ne (fun z => by rw [z, nrd] at e2; cases e2)]
    exact e2
  have hda : (upd (upd H2 rd (.dK [])) da (.dK (skv 0 (.ref g) rd))) da = some (.dK (skv 0 (.ref g) rd)) := upd_same
  have hrd : (upd (upd H2 rd (.dK [])) da (.dK (skv 0 (.ref g) rd))) rd = some (.dK []) := by rw [upd_ne dr.symm]; exact upd_same
  have gda : g ≠ da := (ne_of_none upd_same n2).symm
  have grd : g ≠ rd := ne_of_none hg nrd
  have hg3 : (upd (upd H2 rd (.dK [])) da (.dK (skv 0 (.ref g) rd))) g = some (.tup [.int 0, .int 1]) := by rw [upd_ne gda, upd_ne grd]; exact hg
  generalize upd (upd H2 rd (.dK [])) da (.dK (skv 0 (.ref g) rd)) = H3 at sA hda hrd hg3 ⊢
  have rdn : H1 rd = none := by
    cases e : H1 rd with
    | none => rfl
    | some u =>
      have e2 := s2 _ _ (show (upd H1 da (.dK [])) rd = some u by rw [upd_ne dr.symm]; exact e)
      rw [nrd] at e2
      cases e2
  have f3 := sA _ _ hf
  have frd : f ≠ rd := fun z => by rw [← z] at rdn; exact fda rdn
  refine ⟨_, rfl, f, rfl, ⟨_, SqL.of f3⟩, ?_⟩
  refine for_list (K := K) (a := f) (xs := ks) (fun i σ H' => ∃ (v5 v6 v7 v8 : Option V) (c : Str → Addr), σ = [some (.ref b), some (.int many), some (.ref f), some (.ref o), some (.ref da), v5, v6, v7, v8] ∧ Off K (· = rd) H3 H' ∧ H' rd = some (.dK (byK kN ((rs.map (·.1)).take i) fun x => .ref (c x))) ∧ (∀ z ∈ rs.take i, LRow K H' (c z.1) (ke0 z.2.1 z.2.2.1 z.2.2.2) ∧ Nw H3 (c z.1)) ∧ ∀ x ∈ (rs.map (·.1)).take i, ∀ y ∈ (rs.map (·.1)).take i, c x = c y → x = y) ⟨none, none, none, none, fun _ => 0, rfl, .refl, hrd, fun z hz => absurd hz List.not_mem_nil, fun x hx => absurd hx List.not_mem_nil⟩ (fun i σ H' _ ⟨_, _, _, _, _, _, oi, _⟩ => SqL.of (oi.lst frd f3)) ?_ ?_
  · rintro i v σ H' hi ⟨v5, v6, v7, v8, c, rfl, oi, hr, rows, inj⟩
    have ilt := (List.getElem?_eq_some_iff.mp hi).1
    obtain ⟨z, hz⟩ : ∃ z, rs[i]? = some z := ⟨_, List.getElem?_eq_getElem (by omega)⟩
    obtain ⟨t, dv, rfl, ht, hm⟩ := ((hr' i v z hi hz).tk (TK.same sA)).tk oi.tk
    refine ⟨t, _, rfl, ht, rfl, _, _, rfl, _, _, rfl, _, _, rfl, _, _, rfl, rfl, ?_⟩
    refine ⟨_, rfl, _, rfl, _, rfl, rfl, fun z1 H4 s4 n4 h4 => ⟨rfl, fun z2 H5 s5 n5 h5 => ⟨rfl, fun L H6 s6 n6 h6 => ?_⟩⟩⟩
    have s46 := s4.trans (s5.trans s6)
    have hda6 := s46 _ _ (oi.dK dr hda)
    have hr6 := s46 _ _ hr
    have tl : ((rs.map (·.1)).take i).length ≤ 8 := by rw [List.length_take, List.length_map]; omega
    refine ⟨_, rfl, da, _, rfl, .inl ⟨_, kN "rows", .inl hda6, rfl, rfl⟩, _, rfl, rd, _, rfl, .inl ⟨_, kN z.1, hr6, rfl, (by rw [byK_len]; exact small' (by omega)), rfl⟩, ?_⟩
    have hx : (rs.map (·.1))[i]? = some z.1 := by rw [List.getElem?_map, hz] <;> rfl
    have nx : z.1 ∉ (rs.map (·.1)).take i := fun w => by
      have nd2 : ((rs.map (·.1)).take (i + 1)).Nodup := (List.take_sublist _ _).nodup nd
      rw [take_one hx, List.nodup_append] at nd2
      exact nd2.2.2 _ w _ (List.mem_singleton.mpr rfl) rfl
    rw [byK_put kN_inj]
    have ea : addK ((rs.map (·.1)).take i) z.1 = (rs.map (·.1)).take (i + 1) := by
      unfold addK
      rw [if_neg nx, take_one hx]
    have es : set1 (fun x => V.ref (c x)) z.1 (.ref L) = fun x => .ref (set1 c z.1 L x) := by
      funext y
      by_cases e : y = z.1
      · rw [e, set1_same, set1_same]
      · rw [set1_ne e, set1_ne e]
    rw [ea, es]
    have op : Off K (· = rd) H6 (upd H6 rd (.dK (byK kN ((rs.map (·.1)).take (i + 1)) fun x => .ref (set1 c z.1 L x)))) := .put hr6 .dK rfl
    have hput : (upd H6 rd (.dK (byK kN ((rs.map (·.1)).take (i + 1)) fun x => .ref (set1 c z.1 L x)))) rd = some (.dK (byK kN ((rs.map (·.1)).take (i + 1)) fun x => .ref (set1 c z.1 L x))) := upd_same
    generalize upd H6 rd _ = H7 at op hput ⊢
    have o7 : Off K (· = rd) H' H7 := (Off.same s46).seq op
    have Lrd : L ≠ rd := (ne_of_none ((s4.trans s5) _ _ hr) n6).symm
    have cL : ∀ w ∈ rs.take i, c w.1 ≠ L := fun w hw e => by
      obtain ⟨⟨mv, sv, wv, k1, _⟩, _⟩ := rows w hw
      have k2 := (s4.trans s5) _ _ k1
      rw [e, n6] at k2
      cases k2
    have crd : ∀ w ∈ rs.take i, c w.1 ≠ rd := fun w hw e => by
      have := (rows w hw).2
      rw [e] at this
      exact this.no hrd .dK
    have mn : ∀ {x : Str}, x ∈ (rs.map (·.1)).take i → ∃ w ∈ rs.take i, w.1 = x := fun {x} hx2 => by
      rw [← List.map_take] at hx2
      obtain ⟨w, hw, e⟩ := List.mem_map.mp hx2
      exact ⟨w, hw, e⟩
    have wz : ∀ w ∈ rs.take i, w.1 ≠ z.1 := fun w hw e => nx (by rw [← e, ← List.map_take]; exact List.mem_map_of_mem hw)
    refine ⟨_, _, _, _, set1 c z.1 L, rfl, oi.seq o7, hput, fun w hw => ?_, fun x hx1 y hy1 e => ?_⟩
    · rw [take_one hz, List.mem_append, List.mem_singleton] at hw
      rcases hw with hw | rfl
      · rw [set1_ne (wz w hw)]
        exact ⟨(rows w hw).1.off o7 (crd w hw), (rows w hw).2⟩
      · rw [set1_same]
        refine ⟨LRow.off (R := (· = rd)) ⟨dv, .ref z1, .ref z2, h6, ?_, ⟨z1, rfl, FrQ.int (z := 0) ((s5.trans s6) _ _ h4)⟩, ⟨z2, rfl, FrQ.int (z := 0) (s6 _ _ h5)⟩⟩ op Lrd, ?_⟩
        · exact hm.tk (TK.same s46)
        · exact Nw.back (R := (· = rd)) (K := K) (oi.seq (.same (s4.trans s5))) Lrd (.of n6)
    · rw [take_one hx, List.mem_append, List.mem_singleton] at hx1 hy1
      rcases hx1 with hx1 | hx1 <;> rcases hy1 with hy1 | hy1
      · obtain ⟨w, hw, rfl⟩ := mn hx1
        obtain ⟨w2, hw2, rfl⟩ := mn hy1
        rw [set1_ne (wz w hw), set1_ne (wz w2 hw2)] at e
        exact inj _ hx1 _ hy1 e
      · obtain ⟨w, hw, rfl⟩ := mn hx1
        rw [hy1, set1_ne (wz w hw), set1_same] at e
        exact absurd e (cL w hw)
      · obtain ⟨w, hw, rfl⟩ := mn hy1
        rw [hx1, set1_ne (wz w hw), set1_same] at e
        exact absurd e.symm (cL w hw)
      · rw [hx1, hy1]
  · rintro σ H' ⟨v5, v6, v7, v8, c, rfl, oi, hr, rows, inj⟩
    have e0 : (rs.map (·.1)).length = ks.length := by rw [List.length_map]; omega
    have e1 : rs.take ks.length = rs := List.take_of_length_le (by omega)
    rw [← e0, List.take_length] at hr inj
    rw [e1] at rows
    have fH := oi.lst frd f3
    have hrk : ∀ (j : Nat) (v : V) (z : RK), ks[j]? = some v → rs[j]? = some z → RkAt K H' v z := fun j v z a e => ((hr' j v z a e).tk (TK.same sA)).tk oi.tk
    have rdb : rd ≠ b := B1.new rdn
    have nwrd : Nw H rd := Nw.back o1 rdb (.of rdn)
    have oH' : Off K (· = b) H H' := (o1.seq (.same sA)).trans oi fun a z => .inr (by rw [z]; exact nwrd)
    have l9 : (rs.map (·.1)).length ≤ 1000 := by rw [List.length_map]; omega
    have lk0 : ∀ st : Str → Ke, KtOf st rs → LKAt K H' ⟨da, rd, c⟩ (rs.map (·.1)) ⟨st, 0, 0⟩ := fun st kt => ⟨⟨.ref g, oi.dK dr hda, g, rfl, (FrQ.int (z := 0) hg3).tk oi.tk⟩, hr, fun x hx => by
      obtain ⟨z, hz, rfl⟩ := List.mem_map.mp hx
      show LRow K H' (c z.1) (st z.1)
      rw [kt z hz]
      exact (rows z hz).1, inj, dr, l9⟩
    refine ⟨_, rfl, f, ks, rfl, .inl (SqL.of fH), fun kl Ha sa na ha => ⟨rfl, fun ol Hb sb nb hb => ?_⟩⟩
    have sab := sa.trans sb
    refine fun x dx nx ndx ne => ?_
    have sm : Same Hb (upd (upd Hb dx (.own x)) x (.ins T.C_Row dx [])) := make_same nx ndx
    refine ⟨x, dx, kl, ol, [], ks, [], rs.map (·.1), [], rs.map (fun z => .tuple [.str z.1, .int z.2.1, .int z.2.2.1, dq z.2.2.2]), rfl, upd_same, .inl (SqL.of (sm _ _ (sb _ _ ha))), ⟨by rw [List.length_map]; omega, by rw [List.length_map]; omega, fun j v y d a c2 e => ?_⟩, .inl (SqL.of (sm _ _ hb)), ⟨rfl, rfl, fun j v y d a _ _ => by simp at a⟩, by show 0 ≤ 40; decide, by omega, by omega, by rw [List.append_nil]; exact nd, ?_, fun k2 m2 H9 hx9 hk9 hm9 f9 => ⟨rfl, ?_⟩⟩
    · rw [List.getElem?_map] at c2 e
      cases e2 : rs[j]? with
      | none => rw [e2] at c2; cases c2
      | some z =>
        rw [e2] at c2 e
        cases c2
        cases e
        exact rk_ket ((hrk j v z a e2).tk (TK.same (sab.trans sm))) (rok z (List.mem_of_getElem? e2))
    · exact ((oH'.seq (.same sab)).tbs hT).same sm
    have s89 : Sm Hb H9 := make_sm (nx := nx) (ndx := ndx) f9
    have oH9 : Off K (· = b) H H9 := (oH'.seq (.same sab)).seq (.sm s89)
    have o9 : Off K (fun _ => False) H' H9 := (Off.same sab).seq (.sm s89)
    have hr3 : H9 x = some (.ins T.C_Row dx (rfs k2 m2)) := hx9
    refine fun p dp np ndp nep => ?_
    have s34 : Same H9 (upd (upd H9 dp (.own p)) p (.ins T.C_Kettles dp [])) := make_same np ndp
    refine ⟨p, dp, x, dx, k2, m2, ks, rs, rfl, upd_same, s34 _ _ hr3, Same.tup s34 hk9, by omega, fun j v z a e => ((hrk j v z a e).tk o9.tk).tk (TK.same s34), nd, by omega, fun Ad st H5 eA hk kt o5 nwq => ⟨rfl, ?_⟩⟩
    generalize upd (upd H9 dp (.own p)) p (.ins T.C_Kettles dp []) = HX at s34 o5 nwq
    refine ⟨_, rfl, rfl, fun a H6 s6 n6 h6 => ?_⟩
    have lk9 := (lk0 st kt).off o9 (fun _ _ => id) id
    have th : ∀ a, LKQ ⟨da, rd, c⟩ (rs.map (·.1)) a → ∃ u, H9 a = some u ∧ Chg u := fun a r => by
      rcases r with r | r
      · exact lk9.there r
      · rw [r]; exact ⟨_, lk9.r, .dK⟩
    have np9 : ∀ a, LKQ ⟨da, rd, c⟩ (rs.map (·.1)) a → a ≠ p := fun a r e => by
      obtain ⟨u, hu, _⟩ := th a r
      rw [e, np] at hu
      cases hu
    have B' : BoxAt H' b (n + 70) := oi.boxAt rdb.symm (B1.same sA)
    have B9 : BoxAt H9 b (n + 70) := o9.boxAt id B'
    have pb : p ≠ b := B9.new np
    have nwp : Nw H p := Nw.back oH9 pb (.of np)
    have oHX := oH9.seq (.same s34)
    obtain ⟨bx, hbx⟩ := box_lst (B9.same s34)
    have oH5 : Off K (· = b) H H5 := oHX.trans o5 fun a z => .inr (by rw [z]; exact nwp)
    have lk5 : LKAt K H5 ⟨da, rd, c⟩ (rs.map (·.1)) ⟨st, 0, 0⟩ := (lk9.same s34).off o5 (fun a r e => np9 a (.inl r) e) (np9 _ (.inr rfl))
    have B5 : BoxAt H5 b (n + 70) := o5.boxAt pb.symm (B9.same s34)
    obtain ⟨bx3, hbx3⟩ := box_lst (B1.same sA)
    subst eA
    refine q a Ad ⟨da, rd, c⟩ (rs.map (·.1)) ⟨st, 0, 0⟩ H6 (SqT.of h6) (hk.same s6) (lk5.same s6) (begun_inv kt rok (by omega)) (fun y hy => by
      obtain ⟨z, hz, rfl⟩ := List.mem_map.mp hy
      show (st z.1).s = 0 ∧ (st z.1).w = 0
      rw [kt z hz]
      exact ⟨rfl, rfl⟩) nd (by rw [List.length_map]; exact lr) (fun y hy => ?_) (fun a2 r => ⟨fun r2 => ?_, ?_⟩) (fun a2 r => ?_) (B5.same s6) (oH5.seq (.same s6))
    · obtain ⟨z, hz, rfl⟩ := List.mem_map.mp hy
      exact (rok z hz).nm.nm.lay
    · obtain ⟨u, hu, cu⟩ := th a2 r2
      rcases nwq a2 r with e | e
      · exact np9 a2 r2 e
      · exact e.no (s34 _ _ hu) cu
    · rcases nwq a2 r with e | e
      · rw [e]; exact nwp
      · exact Nw.back oHX (e.ne hbx .lst) e
    · rcases r with (e | ⟨y, hy, e⟩) | e
      · rw [show a2 = da from e]
        exact Nw.back o1 (B1.new nda) (.of nda)
      · rw [show a2 = c y from e]
        obtain ⟨z, hz, rfl⟩ := List.mem_map.mp hy
        have k := (rows z hz).2
        exact Nw.back (o1.seq (.same sA)) (k.ne hbx3 .lst) k
      · rw [show a2 = rd from e]
        exact nwrd
  in #guard_msgs (pass all) in example : True := trivial

end
end KR
namespace KR
open PySem PySem.Spec PyProof.Rows L2
section
variable {P : Program} {w : World} {K : PySem.W.Frag} {mg : Str → Option Value} {base : Heap}
/-- the word of a refusal, its class -/
def Sev (T : All K mg) (w : Str) (C : Addr) (nm : Str) : Prop := (w = "kettle" ∧ C = T.C_NoKettle ∧ nm = "NoKettle") ∨ (w = "room" ∧ C = T.C_NoRoom ∧ nm = "NoRoom") ∨ (w = "share" ∧ C = T.C_NoShare ∧ nm = "NoShare") ∨ (w = "empty" ∧ C = T.C_Empty ∧ nm = "Empty") ∨ (w = "same" ∧ C = T.C_Same ∧ nm = "Same") ∨ (w = "stopped" ∧ C = T.C_Stopped ∧ nm = "Stopped") ∨ (w = "inwork" ∧ C = T.C_InWork ∧ nm = "InWork")
def sp_kask (T : All K mg) : Sp := fun vs H Q E => ∃ (A : KAd) (nms : List Str) (S : KS) (j : Nat) (d : Addr) (D : KD), vs = [.ref A.p, .ref d] ∧ KettlesAt K T.C_Kettles T.C_Kettle H A nms S ∧ nms.Nodup ∧ KInv nms j S ∧ j ≤ 400 ∧ KDAt K H d D ∧ KDOk nms S D ∧ KLay nms ∧
  (∀ v dd H', (kstep nms D S).2 = toldD dd → KettlesAt K T.C_Kettles T.C_Kettle H' A nms (kstep nms D S).1 → Dtu K H' 6 v dd → Off K (A.R nms) H H' → Q v H') ∧
  (∀ w dd v C nm H', kstep nms D S = (S, refu w dd) → Sev T w C nm → PyData.canLay0 (.str w) = true → Same H H' → Dtu K H' 3 v dd → Rf C nm v H' E)
set_option Elab.async true in
theorem ok_l_ask (T : All K mg) : FnOk P w K mg base (L2.CX P w) 8 T.f_l_ask T.fd_l_ask ["_law_kettles", "_law_deed_here"] (sp_kask T) := by
  refine T.d_l_ask.fn.okX sc_l_ask (fun vs H Q E h => ?_) (fun cdv A outer s H vs Q E hr h => ?_)
  · obtain ⟨A, nms, S, j, d, D, rfl, _⟩ := h
    rfl
  obtain ⟨Ad, nms, S, j, d, D, rfl, hk, nd, inv, j9, hd, ok, lay, q, qr⟩ := h
  refine ⟨_, (pss_cons (ps_par (i := 2) (j := 3) (by rfl) sc_l_ask.nd rfl rfl (by decide) rfl rfl (pa_cons (pe_ix (ixT (K := K) rfl) (pv 1) pe_int (fun _ _ => rfl)) (pa_cons (pe_ix (ixT (K := K) rfl) (pv 1) pe_int (fun _ _ => rfl)) pa_nil)) (by rfl))
      (pss_cons (ps_if (pt_cmpR op_eq (pv 2) pe_str (nomark _)) (pss_one (ps_ret (pe_meth (pv 0) T.L_Kettles T.m_Kettles_boil_on (ok_Kettles_boil_on T) (hr.mono (by decide)) T.b_Kettles_boil_on .nil pass0 (pa_cons (pv 3) pa_nil)))) pss_nil)
      (pss_cons (ps_if (pt_cmpR op_eq (pv 2) pe_str (nomark _)) (pss_one (ps_ret (pe_meth (pv 0) T.L_Kettles T.m_Kettles_pour (ok_Kettles_pour T) (hr.mono (by decide)) T.b_Kettles_pour .nil (passes_call (takes_of rfl rfl rfl rfl) (fun _ _ _ _ h => h)) (pa_cons (pv 3) (pa_cons (pe_ix (ixT (K := K) rfl) (pv 1) pe_int (fun _ _ => rfl)) pa_nil))))) pss_nil)
      (pss_cons (ps_if (pt_cmpR op_eq (pv 2) pe_str (nomark _)) (pss_one (ps_ret (pe_meth (pv 0) T.L_Kettles T.m_Kettles_dip (ok_Kettles_dip T) (hr.mono (by decide)) T.b_Kettles_dip .nil (passes_call (takes_of rfl rfl rfl rfl) (fun _ _ _ _ h => h)) (pa_cons (pv 3) (pa_cons (pe_ix (ixT (K := K) rfl) (pv 1) pe_int (fun _ _ => rfl)) pa_nil))))) pss_nil)
      (pss_cons (ps_if (pt_cmpR op_eq (pv 2) pe_str (nomark _)) (pss_one (ps_ret (pe_meth (pv 0) T.L_Kettles T.m_Kettles_ladle (ok_Kettles_ladle T) hr T.b_Kettles_ladle .nil (passes_call (takes_of rfl rfl rfl rfl) (fun _ _ _ _ h => h)) (pa_cons (pv 3) (pa_cons (pe_ix (ixT (K := K) rfl) (pv 1) pe_int (fun _ _ => rfl)) (pa_cons (pe_ix (ixT (K := K) rfl) (pv 1) pe_int (fun _ _ => rfl)) pa_nil)))))) pss_nil)
      (pss_cons (ps_if (pt_cmpR op_eq (pv 2) pe_str (nomark _)) (pss_one (ps_ret (pe_meth (pv 0) T.L_Kettles T.m_Kettles_skim (ok_Kettles_skim T) hr T.b_Kettles_skim .nil (passes_call (takes_of rfl rfl rfl rfl) (fun _ _ _ _ h => h)) (pa_cons (pv 3) (pa_cons (pe_ix (ixT (K := K) rfl) (pv 1) pe_int (fun _ _ => rfl)) (pa_cons (pe_ix (ixT (K := K) rfl) (pv 1) pe_int (fun _ _ => rfl)) (pa_cons (pe_ix (ixT (K := K) rfl) (pv 1) pe_int (fun _ _ => rfl)) pa_nil))))))) pss_nil)
      (pss_one (ps_ret (pe_ifExp (pt_cmpR op_eq (pv 2) pe_str (nomark _)) (pe_meth (pv 0) T.L_Kettles T.m_Kettles_stop (ok_Kettles_stop T) (hr.mono (by decide)) T.b_Kettles_stop .nil (passes_call (takes_of rfl rfl rfl rfl) (fun _ _ _ _ h => h)) (pa_cons (pv 3) pa_nil)) (pe_meth (pv 0) T.L_Kettles T.m_Kettles_start (ok_Kettles_start T) (hr.mono (by decide)) T.b_Kettles_start .nil (passes_call (takes_of rfl rfl rfl rfl) (fun _ _ _ _ h => h)) (pa_cons (pv 3) pa_nil))))))))))), ?_⟩
  obtain ⟨M, L, N, n, md, okk, gd⟩ := inv.get j9
  obtain ⟨dx, bv, hp, _⟩ := hk.p
  cases D with
  | boil t =>
    have ht : SqT K H d [.str "boil", .int t] := hd
    have t9 : t ≤ 1000 := ok
    refine ⟨_, rfl, d, _, 0, _, rfl, rfl, ht, at0, _, rfl, d, _, 1, _, rfl, rfl, ht, at1, _, _, rfl, ?_⟩
    refine ⟨_, rfl, rfl, _, rfl, ?_⟩
    rw [decide_eq_true rfl]
    refine ⟨_, rfl, Ad.p, dx, _, rfl, hp, rfl, _, rfl, Ad, nms, S, t, rfl, hk, nd, fun x hx => (okk x hx).kbig n t9, fun i hi => ?_, fun H1 k1 o1 => q .non .none H1 rfl k1 (.non _) o1⟩
    obtain ⟨c1, c2, c3⟩ := goff_in n t9 (nms.take i) S.gone (fun x hx => okk x (List.mem_of_mem_take hx)) gd inv.g0
    have e9 : S.gone ≤ 8000000 * 400 := by
      have a := inv.g9
      have b : (((8000000 * j : Nat) : Int) : Rat) ≤ ((3200000000 : Int) : Rat) := Rat.intCast_le_intCast.mpr (by omega)
      have c : ((3200000000 : Int) : Rat) = 8000000 * 400 := by decide +kernel
      rw [c] at b
      exact Rat.le_trans a b
    have e8 : ((((nms.take i).length : Nat) : Int) : Rat) ≤ ((8 : Int) : Rat) := Rat.intCast_le_intCast.mpr (by rw [List.length_take]; have := inv.n8; omega)
    have e2 : ((8 : Int) : Rat) = 8 := by decide +kernel
    rw [e2] at e8
    exact (show In N 4000000000 (goff t S.st (nms.take i) S.gone) from ⟨c1.up n.dml, by grind, by grind⟩).big n (by decide +kernel)
  | pour x s w =>
    obtain ⟨kn, s0, s9, w0, w9, pd⟩ := ok
    obtain ⟨j, ht, hj⟩ := hd
    have lx := kn.lay lay
    obtain ⟨⟨sdN, wdN⟩, _⟩ := pd M L md okk
    have is : In N 1000000000 s := ⟨sdN.up n.d, by grind, by grind⟩
    have iw : In N 1000000000 w := ⟨wdN.up n.d, by grind, by grind⟩
    refine ⟨_, rfl, d, _, 0, _, rfl, rfl, ht, at0, _, rfl, d, _, 1, _, rfl, rfl, ht, at1, _, _, rfl, ?_⟩
    refine ⟨_, rfl, rfl, _, rfl, ?_⟩
    rw [nw (by decide +kernel)]
    refine ⟨_, rfl, rfl, _, rfl, ?_⟩
    rw [decide_eq_true rfl]
    refine ⟨_, rfl, Ad.p, dx, _, rfl, hp, rfl, _, rfl, _, rfl, d, _, 2, _, rfl, rfl, ht, at2, Ad, nms, S, x, _, s, w, rfl, hk, hj, fun hx => ⟨(vbig (okk x hx) n is iw).1, (okk x hx).room_sz⟩, fun nx => ?_, fun hx fu => ?_, fun hx nf H1 k1 o1 => ?_⟩
    · exact qr "kettle" (.str x) (.str x) _ _ H (by unfold kstep; dsimp only; rw [if_pos nx]) (.inl ⟨rfl, rfl, rfl⟩) (by decide +kernel) (Same.refl _) (.str _ _ lx)
    · exact qr "room" (.str x) (.str x) _ _ H (by unfold kstep; dsimp only; rw [if_neg (fun z => z hx), if_pos (show (S.st x).full s w from fu)]) (.inr (.inl ⟨rfl, rfl, rfl⟩)) (by decide +kernel) (Same.refl _) (.str _ _ lx)
    · have es : kstep nms (.pour x s w) S = (S.put x ((S.st x).inn s w), toldD .none) := by unfold kstep; dsimp only; rw [if_neg (fun z => z hx), if_neg (show ¬ (S.st x).full s w from nf)]
      exact q .non .none H1 (by rw [es]) (by rw [es]; exact k1) (.non _) o1
  | dip x t =>
    obtain ⟨kn, st⟩ := ok
    obtain ⟨sa, ht, ha⟩ := hd
    have lx := kn.lay lay
    refine ⟨_, rfl, d, _, 0, _, rfl, rfl, ht, at0, _, rfl, d, _, 1, _, rfl, rfl, ht, at1, _, _, rfl, ?_⟩
    refine ⟨_, rfl, rfl, _, rfl, ?_⟩
    rw [nw (by decide +kernel)]
    refine ⟨_, rfl, rfl, _, rfl, ?_⟩
    rw [nw (by decide +kernel)]
    refine ⟨_, rfl, rfl, _, rfl, ?_⟩
    rw [decide_eq_true rfl]
    refine ⟨_, rfl, Ad.p, dx, _, rfl, hp, rfl, _, rfl, _, rfl, d, _, 2, _, rfl, rfl, ht, at2, Ad, nms, S, x, sa, t, rfl, hk, ha, fun hx => ⟨((okk x hx).inS n).big n (by decide +kernel), ((okk x hx).inW n).big n (by decide +kernel)⟩, st.sz.1, st.sz.2, fun nx => ?_, fun hx no => ?_, fun hx oks ni => ?_, fun hx oks nn z H1 k1 j1 o1 => ?_⟩
    · exact qr "kettle" (.str x) (.str x) _ _ H (by unfold kstep; dsimp only; rw [if_pos nx]) (.inl ⟨rfl, rfl, rfl⟩) (by decide +kernel) (Same.refl _) (.str _ _ lx)
    · exact qr "share" (dq t) (.ref sa) _ _ H (by unfold kstep; dsimp only; rw [if_neg (fun z => z hx), if_pos no]) (.inr (.inr (.inl ⟨rfl, rfl, rfl⟩))) (by decide +kernel) (Same.refl _) (ha.dtu 1)
    · exact qr "empty" (.str x) (.str x) _ _ H (by unfold kstep; dsimp only; rw [if_neg (fun z => z hx), if_neg (fun z => z oks), if_pos ni]) (.inr (.inr (.inr (.inl ⟨rfl, rfl, rfl⟩)))) (by decide +kernel) (Same.refl _) (.str _ _ lx)
    · have es : kstep nms (.dip x t) S = (S.put x ((S.st x).out t), toldD (dj ((S.st x).s * t) ((S.st x).w * t))) := by unfold kstep; dsimp only; rw [if_neg (fun z => z hx), if_neg (fun z => z oks), if_neg nn]
      exact q (.ref z) _ H1 (by rw [es]) (by rw [es]; exact k1) (j1.dtu 3) o1
  | ladle x y t =>
    obtain ⟨kx, ky, st⟩ := ok
    obtain ⟨sa, ht, ha⟩ := hd
    have lx := kx.lay lay
    have ly := ky.lay lay
    refine ⟨_, rfl, d, _, 0, _, rfl, rfl, ht, at0, _, rfl, d, _, 1, _, rfl, rfl, ht, at1, _, _, rfl, ?_⟩
    refine ⟨_, rfl, rfl, _, rfl, ?_⟩
    rw [nw (by decide +kernel)]
    refine ⟨_, rfl, rfl, _, rfl, ?_⟩
    rw [nw (by decide +kernel)]
    refine ⟨_, rfl, rfl, _, rfl, ?_⟩
    rw [nw (by decide +kernel)]
    refine ⟨_, rfl, rfl, _, rfl, ?_⟩
    rw [decide_eq_true rfl]
    refine ⟨_, rfl, Ad.p, dx, _, rfl, hp, rfl, _, rfl, _, rfl, d, _, 2, _, rfl, rfl, ht, at2, _, rfl, d, _, 3, _, rfl, rfl, ht, at3, Ad, nms, S, x, y, sa, t, rfl, hk, ha, fun hx hy => ?_, st.sz.1, st.sz.2, fun nx => ?_, fun hx ny => ?_, fun hx hy e => ?_, fun hx hy ne no => ?_, fun hx hy ne oks ni => ?_, fun hx hy ne oks nn fu H' s' => ?_, fun hx hy ne oks nn nf z H1 k1 j1 o1 => ?_⟩
    · obtain ⟨p1, p2⟩ := (okk x hx).part_in n st
      exact ⟨((okk x hx).inS n).big n (by decide +kernel), ((okk x hx).inW n).big n (by decide +kernel), (vbig2 n (((okk y hy).inS n).mono (by decide +kernel)) (((okk y hy).inW n).mono (by decide +kernel)) (p1.mono (by decide +kernel)) (p2.mono (by decide +kernel))).1, (okk y hy).room_sz⟩
    · exact qr "kettle" (.str x) (.str x) _ _ H (by unfold kstep; dsimp only; rw [if_pos nx]) (.inl ⟨rfl, rfl, rfl⟩) (by decide +kernel) (Same.refl _) (.str _ _ lx)
    · exact qr "kettle" (.str y) (.str y) _ _ H (by unfold kstep; dsimp only; rw [if_neg (fun z => z hx), if_pos ny]) (.inl ⟨rfl, rfl, rfl⟩) (by decide +kernel) (Same.refl _) (.str _ _ ly)
    · exact qr "same" (.str x) (.str x) _ _ H (by unfold kstep; dsimp only; rw [if_neg (fun z => z hx), if_neg (fun z => z hy), if_pos e]) (.inr (.inr (.inr (.inr (.inl ⟨rfl, rfl, rfl⟩))))) (by decide +kernel) (Same.refl _) (.str _ _ lx)
    · exact qr "share" (dq t) (.ref sa) _ _ H (by unfold kstep; dsimp only; rw [if_neg (fun z => z hx), if_neg (fun z => z hy), if_neg ne, if_pos no]) (.inr (.inr (.inl ⟨rfl, rfl, rfl⟩))) (by decide +kernel) (Same.refl _) (ha.dtu 1)
    · exact qr "empty" (.str x) (.str x) _ _ H (by unfold kstep; dsimp only; rw [if_neg (fun z => z hx), if_neg (fun z => z hy), if_neg ne, if_neg (fun z => z oks), if_pos ni]) (.inr (.inr (.inr (.inl ⟨rfl, rfl, rfl⟩)))) (by decide +kernel) (Same.refl _) (.str _ _ lx)
    · exact qr "room" (.str y) (.str y) _ _ H' (by unfold kstep; dsimp only; rw [if_neg (fun z => z hx), if_neg (fun z => z hy), if_neg ne, if_neg (fun z => z oks), if_neg nn, if_pos fu]) (.inr (.inl ⟨rfl, rfl, rfl⟩)) (by decide +kernel) s' (.str _ _ ly)
    · have es : kstep nms (.ladle x y t) S = ((S.put y ((S.st y).inn ((S.st x).s * t) ((S.st x).w * t))).put x ((S.st x).out t), toldD (dj ((S.st x).s * t) ((S.st x).w * t))) := by
        unfold kstep; dsimp only; rw [if_neg (fun z => z hx), if_neg (fun z => z hy), if_neg ne, if_neg (fun z => z oks), if_neg nn, if_neg nf]
      exact q (.ref z) _ H1 (by rw [es]) (by rw [es]; exact k1) (j1.dtu 3) o1
  | skim x t g y =>
    obtain ⟨kx, ky, st, sg⟩ := ok
    obtain ⟨sa, ga, ht, ha, hg⟩ := hd
    have lx := kx.lay lay
    have ly := ky.lay lay
    refine ⟨_, rfl, d, _, 0, _, rfl, rfl, ht, at0, _, rfl, d, _, 1, _, rfl, rfl, ht, at1, _, _, rfl, ?_⟩
    refine ⟨_, rfl, rfl, _, rfl, ?_⟩
    rw [nw (by decide +kernel)]
    refine ⟨_, rfl, rfl, _, rfl, ?_⟩
    rw [nw (by decide +kernel)]
    refine ⟨_, rfl, rfl, _, rfl, ?_⟩
    rw [nw (by decide +kernel)]
    refine ⟨_, rfl, rfl, _, rfl, ?_⟩
    rw [nw (by decide +kernel)]
    refine ⟨_, rfl, rfl, _, rfl, ?_⟩
    rw [decide_eq_true rfl]
    refine ⟨_, rfl, Ad.p, dx, _, rfl, hp, rfl, _, rfl, _, rfl, d, _, 2, _, rfl, rfl, ht, at2, _, rfl, d, _, 3, _, rfl, rfl, ht, at3, _, rfl, d, _, 4, _, rfl, rfl, ht, at4, Ad, nms, S, x, y, sa, ga, t, g, rfl, hk, ha, hg, fun hx hy => ?_, st.sz.1, st.sz.2, sg.sz.1, sg.sz.2, fun nx => ?_, fun hx ny => ?_, fun hx hy no => ?_, fun hx hy oks gn ng => ?_, fun hx hy oks og ni => ?_, fun hx hy oks og nn fu H' s' => ?_, fun hx hy oks og nn nf z H1 k1 j1 o1 => ?_⟩
    · obtain ⟨p1, p2⟩ := (okk x hx).part_in n st
      obtain ⟨r1, r2⟩ := (okk x hx).part2_in n st sg
      obtain ⟨b1, b2, b3⟩ := bef_in (okk x hx) (okk y hy) n st
      exact ⟨((okk x hx).inS n).big n (by decide +kernel), ((okk x hx).inW n).big n (by decide +kernel), p1.big n (by decide +kernel), p2.big n (by decide +kernel), (vbig2 n (b1.mono (by decide +kernel)) (b2.mono (by decide +kernel)) (r1.mono (by decide +kernel)) (r2.mono (by decide +kernel))).1, (okk y hy).room_sz⟩
    · exact qr "kettle" (.str x) (.str x) _ _ H (by unfold kstep; dsimp only; rw [if_pos nx]) (.inl ⟨rfl, rfl, rfl⟩) (by decide +kernel) (Same.refl _) (.str _ _ lx)
    · exact qr "kettle" (.str y) (.str y) _ _ H (by unfold kstep; dsimp only; rw [if_neg (fun z => z hx), if_pos ny]) (.inl ⟨rfl, rfl, rfl⟩) (by decide +kernel) (Same.refl _) (.str _ _ ly)
    · exact qr "share" (dq t) (.ref sa) _ _ H (by unfold kstep; dsimp only; rw [if_neg (fun z => z hx), if_neg (fun z => z hy), if_pos no]) (.inr (.inr (.inl ⟨rfl, rfl, rfl⟩))) (by decide +kernel) (Same.refl _) (ha.dtu 1)
    · exact qr "share" (dq g) (.ref ga) _ _ H (by unfold kstep; dsimp only; rw [if_neg (fun z => z hx), if_neg (fun z => z hy), if_neg (fun z => z oks), if_pos ⟨gn, ng⟩]) (.inr (.inr (.inl ⟨rfl, rfl, rfl⟩))) (by decide +kernel) (Same.refl _) (hg.dtu 1)
    · have og' : ¬ (g ≠ 0 ∧ ¬ ShOk g) := fun z => og.elim z.1 z.2
      exact qr "empty" (.str x) (.str x) _ _ H (by unfold kstep; dsimp only; rw [if_neg (fun z => z hx), if_neg (fun z => z hy), if_neg (fun z => z oks), if_neg og', if_pos ni]) (.inr (.inr (.inr (.inl ⟨rfl, rfl, rfl⟩)))) (by decide +kernel) (Same.refl _) (.str _ _ lx)
    · have og' : ¬ (g ≠ 0 ∧ ¬ ShOk g) := fun z => og.elim z.1 z.2
      exact qr "room" (.str y) (.str y) _ _ H' (by unfold kstep; dsimp only; rw [if_neg (fun z => z hx), if_neg (fun z => z hy), if_neg (fun z => z oks), if_neg og', if_neg nn, if_pos fu]) (.inr (.inl ⟨rfl, rfl, rfl⟩)) (by decide +kernel) s' (.str _ _ ly)
    · have og' : ¬ (g ≠ 0 ∧ ¬ ShOk g) := fun z => og.elim z.1 z.2
      have es : kstep nms (.skim x t g y) S = ((S.put x ((S.st x).out t)).put y ((Ke.bef S x y t).inn ((S.st x).s * t * g) ((S.st x).w * t * g)), toldD (.tuple [dj ((S.st x).s * t * g) ((S.st x).w * t * g), dj ((S.st x).s * t * (1 - g)) ((S.st x).w * t * (1 - g))])) := by
        unfold kstep; dsimp only; rw [if_neg (fun z => z hx), if_neg (fun z => z hy), if_neg (fun z => z oks), if_neg og', if_neg nn, if_neg nf]
      obtain ⟨p, r, hz, hp1, hr1⟩ := j1
      exact q (.ref z) _ H1 (by rw [es]) (by rw [es]; exact k1) (DtuAll.tup (n := 5) (.cons (hp1.dtu 2) (.cons (hr1.dtu 2) .nil)) hz (by show 2 ≤ 100000; decide)) o1
  | stop x =>
    have kn : KNm nms x := ok
    have ht : SqT K H d [.str "stop", .str x] := hd
    have lx := kn.lay lay
    refine ⟨_, rfl, d, _, 0, _, rfl, rfl, ht, at0, _, rfl, d, _, 1, _, rfl, rfl, ht, at1, _, _, rfl, ?_⟩
    refine ⟨_, rfl, rfl, _, rfl, ?_⟩
    rw [nw (by decide +kernel)]
    refine ⟨_, rfl, rfl, _, rfl, ?_⟩
    rw [nw (by decide +kernel)]
    refine ⟨_, rfl, rfl, _, rfl, ?_⟩
    rw [nw (by decide +kernel)]
    refine ⟨_, rfl, rfl, _, rfl, ?_⟩
    rw [nw (by decide +kernel)]
    refine ⟨_, rfl, rfl, _, rfl, ?_⟩
    rw [nw (by decide +kernel)]
    refine ⟨_, rfl, rfl, _, rfl, ?_⟩
    rw [decide_eq_true rfl]
    refine ⟨_, rfl, Ad.p, dx, _, rfl, hp, rfl, _, rfl, Ad, nms, S, x, rfl, hk, fun nx => ?_, fun hx ho => ?_, fun hx ho H1 k1 o1 => ?_⟩
    · exact qr "kettle" (.str x) (.str x) _ _ H (by unfold kstep; dsimp only; rw [if_pos nx]) (.inl ⟨rfl, rfl, rfl⟩) (by decide +kernel) (Same.refl _) (.str _ _ lx)
    · exact qr "stopped" (.str x) (.str x) _ _ H (by unfold kstep; dsimp only; rw [if_neg (fun z => z hx), if_pos ho]) (.inr (.inr (.inr (.inr (.inr (.inl ⟨rfl, rfl, rfl⟩)))))) (by decide +kernel) (Same.refl _) (.str _ _ lx)
    · have es : kstep nms (.stop x) S = (S.put x { S.st x with on := false }, toldD .none) := by unfold kstep; dsimp only; rw [if_neg (fun z => z hx), if_neg ho]
      exact q .non .none H1 (by rw [es]) (by rw [es]; exact k1) (.non _) o1
  | start x =>
    have kn : KNm nms x := ok
    have ht : SqT K H d [.str "start", .str x] := hd
    have lx := kn.lay lay
    refine ⟨_, rfl, d, _, 0, _, rfl, rfl, ht, at0, _, rfl, d, _, 1, _, rfl, rfl, ht, at1, _, _, rfl, ?_⟩
    refine ⟨_, rfl, rfl, _, rfl, ?_⟩
    rw [nw (by decide +kernel)]
    refine ⟨_, rfl, rfl, _, rfl, ?_⟩
    rw [nw (by decide +kernel)]
    refine ⟨_, rfl, rfl, _, rfl, ?_⟩
    rw [nw (by decide +kernel)]
    refine ⟨_, rfl, rfl, _, rfl, ?_⟩
    rw [nw (by decide +kernel)]
    refine ⟨_, rfl, rfl, _, rfl, ?_⟩
    rw [nw (by decide +kernel)]
    refine ⟨_, rfl, rfl, _, rfl, ?_⟩
    rw [nw (by decide +kernel)]
    refine ⟨_, rfl, Ad.p, dx, _, rfl, hp, rfl, _, rfl, Ad, nms, S, x, rfl, hk, fun nx => ?_, fun hx ho => ?_, fun hx ho H1 k1 o1 => ?_⟩
    · exact qr "kettle" (.str x) (.str x) _ _ H (by unfold kstep; dsimp only; rw [if_pos nx]) (.inl ⟨rfl, rfl, rfl⟩) (by decide +kernel) (Same.refl _) (.str _ _ lx)
    · exact qr "inwork" (.str x) (.str x) _ _ H (by unfold kstep; dsimp only; rw [if_neg (fun z => z hx), if_pos ho]) (.inr (.inr (.inr (.inr (.inr (.inr ⟨rfl, rfl, rfl⟩)))))) (by decide +kernel) (Same.refl _) (.str _ _ lx)
    · have es : kstep nms (.start x) S = (S.put x { S.st x with on := true }, toldD .none) := by unfold kstep; dsimp only; rw [if_neg (fun z => z hx), if_neg ho]
      exact q .non .none H1 (by rw [es]) (by rw [es]; exact k1) (.non _) o1
  in #guard_msgs (pass all) in example : True := trivial

end
end KR
namespace KR
open PySem PySem.Spec PyProof.Rows L2
section
variable {P : Program} {w : World} {K : PySem.W.Frag} {mg : Str → Option Value} {base : Heap}
abbrev sevW : List V := [.str "kettle", .str "room", .str "share", .str "empty", .str "same", .str "stopped", .str "inwork"]
set_option Elab.async true in
theorem seven_of (T : All K mg) {C : Addr} {w nm : Str} (h : Sev T w C nm) : ∃ (b1 b2 b3 b4 b5 b6 b7 : Bool) (j : Nat), PySem.W.kitOne K (.ref C) (.ref T.C_NoKettle) = some b1 ∧ PySem.W.kitOne K (.ref C) (.ref T.C_NoRoom) = some b2 ∧ PySem.W.kitOne K (.ref C) (.ref T.C_NoShare) = some b3 ∧ PySem.W.kitOne K (.ref C) (.ref T.C_Empty) = some b4 ∧ PySem.W.kitOne K (.ref C) (.ref T.C_Same) = some b5 ∧ PySem.W.kitOne K (.ref C) (.ref T.C_Stopped) = some b6 ∧ PySem.W.kitOne K (.ref C) (.ref T.C_InWork) = some b7 ∧ PySem.W.kitAny K (.ref C) [.ref T.C_BadDeed, .ref T.C_BadFrac, .ref T.C_BadKettles, .ref T.C_BadMoulds, .ref T.C_BadRow, .ref T.C_Cured, .ref T.C_NoHour, .ref T.C_NoMould, .ref T.C_NoSteady] = some false ∧ PySem.W.kitAny K (.ref C) [.ref T.C_NoTelling, .ref T.C_NotCured, .ref T.C_NotReady, .ref T.C_TooStrong] = some false ∧ PySem.W.kitOne K (.ref C) (.type "ValueError") = some true ∧
    countIn (.bool true) ([b1, b2, b3, b4, b5, b6, b7].map PyData.bool) = 1 ∧ ([b1, b2, b3, b4, b5, b6, b7].map V.bl)[j]? = some (.bl true) ∧ (∀ i, i < j → ([b1, b2, b3, b4, b5, b6, b7].map V.bl)[i]? = some (.bl false)) ∧ sevW[j]? = some (.str w) ∧ PySem.W.exmOne K (.ref C) (.ref T.C_BoilError) = some true ∧ ExcFacts K C := by
  rcases h with ⟨rfl, rfl, rfl⟩ | ⟨rfl, rfl, rfl⟩ | ⟨rfl, rfl, rfl⟩ | ⟨rfl, rfl, rfl⟩ | ⟨rfl, rfl, rfl⟩ | ⟨rfl, rfl, rfl⟩ | ⟨rfl, rfl, rfl⟩
  · exact ⟨_, _, _, _, _, _, _, 0, T.kk_NoKettle_NoKettle, T.kk_NoKettle_NoRoom, T.kk_NoKettle_NoShare, T.kk_NoKettle_Empty, T.kk_NoKettle_Same, T.kk_NoKettle_Stopped, T.kk_NoKettle_InWork, kitAny_cons T.kk_NoKettle_BadDeed (fun _ => kitAny_cons T.kk_NoKettle_BadFrac (fun _ => kitAny_cons T.kk_NoKettle_BadKettles (fun _ => kitAny_cons T.kk_NoKettle_BadMoulds (fun _ => kitAny_cons T.kk_NoKettle_BadRow (fun _ => kitAny_cons T.kk_NoKettle_Cured (fun _ => kitAny_cons T.kk_NoKettle_NoHour (fun _ => kitAny_cons T.kk_NoKettle_NoMould (fun _ => kitAny_cons T.kk_NoKettle_NoSteady (fun _ => rfl) (fun z => nomatch z)) (fun z => nomatch z)) (fun z => nomatch z)) (fun z => nomatch z)) (fun z => nomatch z)) (fun z => nomatch z)) (fun z => nomatch z)) (fun z => nomatch z)) (fun z => nomatch z), kitAny_cons T.kk_NoKettle_NoTelling (fun _ => kitAny_cons T.kk_NoKettle_NotCured (fun _ => kitAny_cons T.kk_NoKettle_NotReady (fun _ => kitAny_cons T.kk_NoKettle_TooStrong (fun _ => rfl) (fun z => nomatch z)) (fun z => nomatch z)) (fun z => nomatch z)) (fun z => nomatch z), T.kV_NoKettle, rfl, rfl, fun i hi => absurd hi (by omega), rfl, T.te_NoKettle, T.E_NoKettle⟩
  · exact ⟨_, _, _, _, _, _, _, 1, T.kk_NoRoom_NoKettle, T.kk_NoRoom_NoRoom, T.kk_NoRoom_NoShare, T.kk_NoRoom_Empty, T.kk_NoRoom_Same, T.kk_NoRoom_Stopped, T.kk_NoRoom_InWork, kitAny_cons T.kk_NoRoom_BadDeed (fun _ => kitAny_cons T.kk_NoRoom_BadFrac (fun _ => kitAny_cons T.kk_NoRoom_BadKettles (fun _ => kitAny_cons T.kk_NoRoom_BadMoulds (fun _ => kitAny_cons T.kk_NoRoom_BadRow (fun _ => kitAny_cons T.kk_NoRoom_Cured (fun _ => kitAny_cons T.kk_NoRoom_NoHour (fun _ => kitAny_cons T.kk_NoRoom_NoMould (fun _ => kitAny_cons T.kk_NoRoom_NoSteady (fun _ => rfl) (fun z => nomatch z)) (fun z => nomatch z)) (fun z => nomatch z)) (fun z => nomatch z)) (fun z => nomatch z)) (fun z => nomatch z)) (fun z => nomatch z)) (fun z => nomatch z)) (fun z => nomatch z), kitAny_cons T.kk_NoRoom_NoTelling (fun _ => kitAny_cons T.kk_NoRoom_NotCured (fun _ => kitAny_cons T.kk_NoRoom_NotReady (fun _ => kitAny_cons T.kk_NoRoom_TooStrong (fun _ => rfl) (fun z => nomatch z)) (fun z => nomatch z)) (fun z => nomatch z)) (fun z => nomatch z), T.kV_NoRoom, rfl, rfl, fun i hi => (match i, hi with | 0, _ => rfl | i + 1, h => absurd h (by omega)), rfl, T.te_NoRoom, T.E_NoRoom⟩
  · exact ⟨_, _, _, _, _, _, _, 2, T.kk_NoShare_NoKettle, T.kk_NoShare_NoRoom, T.kk_NoShare_NoShare, T.kk_NoShare_Empty, T.kk_NoShare_Same, T.kk_NoShare_Stopped, T.kk_NoShare_InWork, kitAny_cons T.kk_NoShare_BadDeed (fun _ => kitAny_cons T.kk_NoShare_BadFrac (fun _ => kitAny_cons T.kk_NoShare_BadKettles (fun _ => kitAny_cons T.kk_NoShare_BadMoulds (fun _ => kitAny_cons T.kk_NoShare_BadRow (fun _ => kitAny_cons T.kk_NoShare_Cured (fun _ => kitAny_cons T.kk_NoShare_NoHour (fun _ => kitAny_cons T.kk_NoShare_NoMould (fun _ => kitAny_cons T.kk_NoShare_NoSteady (fun _ => rfl) (fun z => nomatch z)) (fun z => nomatch z)) (fun z => nomatch z)) (fun z => nomatch z)) (fun z => nomatch z)) (fun z => nomatch z)) (fun z => nomatch z)) (fun z => nomatch z)) (fun z => nomatch z), kitAny_cons T.kk_NoShare_NoTelling (fun _ => kitAny_cons T.kk_NoShare_NotCured (fun _ => kitAny_cons T.kk_NoShare_NotReady (fun _ => kitAny_cons T.kk_NoShare_TooStrong (fun _ => rfl) (fun z => nomatch z)) (fun z => nomatch z)) (fun z => nomatch z)) (fun z => nomatch z), T.kV_NoShare, rfl, rfl, fun i hi => (match i, hi with | 0, _ => rfl | 1, _ => rfl | i + 2, h => absurd h (by omega)), rfl, T.te_NoShare, T.E_NoShare⟩
  · exact ⟨_, _, _, _, _, _, _, 3, T.kk_Empty_NoKettle, T.kk_Empty_NoRoom, T.kk_Empty_NoShare, T.kk_Empty_Empty, T.kk_Empty_Same, T.kk_Empty_Stopped, T.kk_Empty_InWork, kitAny_cons T.kk_Empty_BadDeed (fun _ => kitAny_cons T.kk_Empty_BadFrac (fun _ => kitAny_cons T.kk_Empty_BadKettles (fun _ => kitAny_cons T.kk_Empty_BadMoulds (fun _ => kitAny_cons T.kk_Empty_BadRow (fun _ => kitAny_cons T.kk_Empty_Cured (fun _ => kitAny_cons T.kk_Empty_NoHour (fun _ => kitAny_cons T.kk_Empty_NoMould (fun _ => kitAny_cons T.kk_Empty_NoSteady (fun _ => rfl) (fun z => nomatch z)) (fun z => nomatch z)) (fun z => nomatch z)) (fun z => nomatch z)) (fun z => nomatch z)) (fun z => nomatch z)) (fun z => nomatch z)) (fun z => nomatch z)) (fun z => nomatch z), kitAny_cons T.kk_Empty_NoTelling (fun _ => kitAny_cons T.kk_Empty_NotCured (fun _ => kitAny_cons T.kk_Empty_NotReady (fun _ => kitAny_cons T.kk_Empty_TooStrong (fun _ => rfl) (fun z => nomatch z)) (fun z => nomatch z)) (fun z => nomatch z)) (fun z => nomatch z), T.kV_Empty, rfl, rfl, fun i hi => (match i, hi with | 0, _ => rfl | 1, _ => rfl | 2, _ => rfl | i + 3, h => absurd h (by omega)), rfl, T.te_Empty, T.E_Empty⟩
  · exact ⟨_, _, _, _, _, _, _, 4, T.kk_Same_NoKettle, T.kk_Same_NoRoom, T.kk_Same_NoShare, T.kk_Same_Empty, T.kk_Same_Same, T.kk_Same_Stopped, T.kk_Same_InWork, kitAny_cons T.kk_Same_BadDeed (fun _ => kitAny_cons T.kk_Same_BadFrac (fun _ => kitAny_cons T.kk_Same_BadKettles (fun _ => kitAny_cons T.kk_Same_BadMoulds (fun _ => kitAny_cons T.kk_Same_BadRow (fun _ => kitAny_cons T.kk_Same_Cured (fun _ => kitAny_cons T.kk_Same_NoHour (fun _ => kitAny_cons T.kk_Same_NoMould (fun _ => kitAny_cons T.kk_Same_NoSteady (fun _ => rfl) (fun z => nomatch z)) (fun z => nomatch z)) (fun z => nomatch z)) (fun z => nomatch z)) (fun z => nomatch z)) (fun z => nomatch z)) (fun z => nomatch z)) (fun z => nomatch z)) (fun z => nomatch z), kitAny_cons T.kk_Same_NoTelling (fun _ => kitAny_cons T.kk_Same_NotCured (fun _ => kitAny_cons T.kk_Same_NotReady (fun _ => kitAny_cons T.kk_Same_TooStrong (fun _ => rfl) (fun z => nomatch z)) (fun z => nomatch z)) (fun z => nomatch z)) (fun z => nomatch z), T.kV_Same, rfl, rfl, fun i hi => (match i, hi with | 0, _ => rfl | 1, _ => rfl | 2, _ => rfl | 3, _ => rfl | i + 4, h => absurd h (by omega)), rfl, T.te_Same, T.E_Same⟩
  · exact ⟨_, _, _, _, _, _, _, 5, T.kk_Stopped_NoKettle, T.kk_Stopped_NoRoom, T.kk_Stopped_NoShare, T.kk_Stopped_Empty, T.kk_Stopped_Same, T.kk_Stopped_Stopped, T.kk_Stopped_InWork, kitAny_cons T.kk_Stopped_BadDeed (fun _ => kitAny_cons T.kk_Stopped_BadFrac (fun _ => kitAny_cons T.kk_Stopped_BadKettles (fun _ => kitAny_cons T.kk_Stopped_BadMoulds (fun _ => kitAny_cons T.kk_Stopped_BadRow (fun _ => kitAny_cons T.kk_Stopped_Cured (fun _ => kitAny_cons T.kk_Stopped_NoHour (fun _ => kitAny_cons T.kk_Stopped_NoMould (fun _ => kitAny_cons T.kk_Stopped_NoSteady (fun _ => rfl) (fun z => nomatch z)) (fun z => nomatch z)) (fun z => nomatch z)) (fun z => nomatch z)) (fun z => nomatch z)) (fun z => nomatch z)) (fun z => nomatch z)) (fun z => nomatch z)) (fun z => nomatch z), kitAny_cons T.kk_Stopped_NoTelling (fun _ => kitAny_cons T.kk_Stopped_NotCured (fun _ => kitAny_cons T.kk_Stopped_NotReady (fun _ => kitAny_cons T.kk_Stopped_TooStrong (fun _ => rfl) (fun z => nomatch z)) (fun z => nomatch z)) (fun z => nomatch z)) (fun z => nomatch z), T.kV_Stopped, rfl, rfl, fun i hi => (match i, hi with | 0, _ => rfl | 1, _ => rfl | 2, _ => rfl | 3, _ => rfl | 4, _ => rfl | i + 5, h => absurd h (by omega)), rfl, T.te_Stopped, T.E_Stopped⟩
  · exact ⟨_, _, _, _, _, _, _, 6, T.kk_InWork_NoKettle, T.kk_InWork_NoRoom, T.kk_InWork_NoShare, T.kk_InWork_Empty, T.kk_InWork_Same, T.kk_InWork_Stopped, T.kk_InWork_InWork, kitAny_cons T.kk_InWork_BadDeed (fun _ => kitAny_cons T.kk_InWork_BadFrac (fun _ => kitAny_cons T.kk_InWork_BadKettles (fun _ => kitAny_cons T.kk_InWork_BadMoulds (fun _ => kitAny_cons T.kk_InWork_BadRow (fun _ => kitAny_cons T.kk_InWork_Cured (fun _ => kitAny_cons T.kk_InWork_NoHour (fun _ => kitAny_cons T.kk_InWork_NoMould (fun _ => kitAny_cons T.kk_InWork_NoSteady (fun _ => rfl) (fun z => nomatch z)) (fun z => nomatch z)) (fun z => nomatch z)) (fun z => nomatch z)) (fun z => nomatch z)) (fun z => nomatch z)) (fun z => nomatch z)) (fun z => nomatch z)) (fun z => nomatch z), kitAny_cons T.kk_InWork_NoTelling (fun _ => kitAny_cons T.kk_InWork_NotCured (fun _ => kitAny_cons T.kk_InWork_NotReady (fun _ => kitAny_cons T.kk_InWork_TooStrong (fun _ => rfl) (fun z => nomatch z)) (fun z => nomatch z)) (fun z => nomatch z)) (fun z => nomatch z), T.kV_InWork, rfl, rfl, fun i hi => (match i, hi with | 0, _ => rfl | 1, _ => rfl | 2, _ => rfl | 3, _ => rfl | 4, _ => rfl | 5, _ => rfl | i + 6, h => absurd h (by omega)), rfl, T.te_InWork, T.E_InWork⟩
  in #guard_msgs (pass all) in example : True := trivial
def sp_ktold (T : All K mg) : Sp := fun vs H Q E => ∃ (A : KAd) (nms : List Str) (S : KS) (j : Nat) (d : Addr) (D : KD), vs = [.ref A.p, .ref d] ∧ KettlesAt K T.C_Kettles T.C_Kettle H A nms S ∧ nms.Nodup ∧ KInv nms j S ∧ j ≤ 400 ∧ KDAt K H d D ∧ KDOk nms S D ∧ KLay nms ∧
  ∀ v H', KettlesAt K T.C_Kettles T.C_Kettle H' A nms (kstep nms D S).1 → Dtu K H' 8 v (kstep nms D S).2 → Off K (A.R nms) H H' → Q v H'
set_option Elab.async true in
theorem ok_l_told (T : All K mg) : FnOk P w K mg base CX0 9 T.f_l_told T.fd_l_told ["_law_kettles", "_law_deed_here"] (sp_ktold T) := by
  refine T.d_l_told.fn.ok sc_l_told (fun vs H Q E h => ?_) (fun cdv A outer s H vs Q E hr h => ?_)
  · obtain ⟨A, nms, S, j, d, D, rfl, _⟩ := h
    rfl
  obtain ⟨Ad, nms, S, j, d, D, rfl, hk, nd, inv, j9, hd, ok, lay, q⟩ := h
  refine ⟨_, (pss_cons (ps_asg (pe_tupI (pa_cons pe_non (pa_cons pe_non pa_nil))) (pg_tupK (K := K) rfl rfl (pgs_cons (pg_name (i := 2) sc_l_told.nd rfl (by first | exact Or.inl rfl | exact Or.inr rfl)) (pgs_cons (pg_name (i := 3) sc_l_told.nd rfl (by first | exact Or.inl rfl | exact Or.inr rfl)) pgs_nil))))
      (pss_cons (ps_try_keep (i := 4) (tb := _) (ts := fun a cls d => tAsg (tVar 4) (gName 2)) (Wo := fun _ _ _ _ => False) rfl rfl sc_l_told.nd rfl rfl ⟨rfl, by decide, Or.inl T.g_BoilError⟩ takes0 (fun W pn xe tk _ => (pss_one (ps_set (i := 3) sc_l_told.nd rfl (by first | exact Or.inl rfl | exact Or.inr rfl) (pe_callS (ok_l_ask T) hr (by rfl) T.d_l_ask.mg T.d_l_ask.fn.kp T.d_l_ask.b (fun σ => passAt tk σ) (pa_cons (pv 0) (pa_cons (pv 1) pa_nil)))))) (fun a ob cls d pn z f => pss_one (ps_set (i := 2) sc_l_told.nd rfl (Or.inl rfl) (pv 4))))
      (pss_cons (ps_if (pt_cmpR op_isN (pv 2) pe_non (nomark _)) (pss_one (ps_ret (pe_tupI (pa_cons pe_str (pa_cons (pv 3) pa_nil))))) pss_nil)
      (pss_cons (ps_set (i := 5) sc_l_told.nd rfl (by first | exact Or.inl rfl | exact Or.inr rfl) (pe_lstI (pa_cons (pe_callB (isX (K := K) rfl) (by rfl) T.b_isinstance (by decide +kernel) (pa_cons (pv 2) (pa_cons (pe_glob (v := .ref T.C_NoKettle) rfl T.g_NoKettle rfl) pa_nil))) (pa_cons (pe_callB (isX (K := K) rfl) (by rfl) T.b_isinstance (by decide +kernel) (pa_cons (pv 2) (pa_cons (pe_glob (v := .ref T.C_NoRoom) rfl T.g_NoRoom rfl) pa_nil))) (pa_cons (pe_callB (isX (K := K) rfl) (by rfl) T.b_isinstance (by decide +kernel) (pa_cons (pv 2) (pa_cons (pe_glob (v := .ref T.C_NoShare) rfl T.g_NoShare rfl) pa_nil))) pa_nil)))))
      (pss_cons (ps_set (i := 5) sc_l_told.nd rfl (by first | exact Or.inl rfl | exact Or.inr rfl) (pe_op op_catI (pv 5) (pe_lstI (pa_cons (pe_callB (isX (K := K) rfl) (by rfl) T.b_isinstance (by decide +kernel) (pa_cons (pv 2) (pa_cons (pe_glob (v := .ref T.C_Empty) rfl T.g_Empty rfl) pa_nil))) (pa_cons (pe_callB (isX (K := K) rfl) (by rfl) T.b_isinstance (by decide +kernel) (pa_cons (pv 2) (pa_cons (pe_glob (v := .ref T.C_Same) rfl T.g_Same rfl) pa_nil))) (pa_cons (pe_callB (isX (K := K) rfl) (by rfl) T.b_isinstance (by decide +kernel) (pa_cons (pv 2) (pa_cons (pe_glob (v := .ref T.C_Stopped) rfl T.g_Stopped rfl) pa_nil))) pa_nil))))))
      (pss_cons (ps_expr (pe_bm PySem.F.plainAttrs_list PySem.F.slot_list_append PySem.F.type_list_append mt_append (pv 5) (pa_cons (pe_callB (isX (K := K) rfl) (by rfl) T.b_isinstance (by decide +kernel) (pa_cons (pv 2) (pa_cons (pe_glob (v := .ref T.C_InWork) rfl T.g_InWork rfl) pa_nil))) pa_nil)))
      (pss_cons (ps_set (i := 6) sc_l_told.nd rfl (by first | exact Or.inl rfl | exact Or.inr rfl) (pe_callB (isXT (K := K) rfl) (by rfl) T.b_isinstance (by decide +kernel) (pa_cons (pv 2) (pa_cons (pe_tupI (pa_cons (pe_glob (v := .ref T.C_BadDeed) rfl T.g_BadDeed rfl) (pa_cons (pe_glob (v := .ref T.C_BadFrac) rfl T.g_BadFrac rfl) (pa_cons (pe_glob (v := .ref T.C_BadKettles) rfl T.g_BadKettles rfl) (pa_cons (pe_glob (v := .ref T.C_BadMoulds) rfl T.g_BadMoulds rfl) (pa_cons (pe_glob (v := .ref T.C_BadRow) rfl T.g_BadRow rfl) (pa_cons (pe_glob (v := .ref T.C_Cured) rfl T.g_Cured rfl) (pa_cons (pe_glob (v := .ref T.C_NoHour) rfl T.g_NoHour rfl) (pa_cons (pe_glob (v := .ref T.C_NoMould) rfl T.g_NoMould rfl) (pa_cons (pe_glob (v := .ref T.C_NoSteady) rfl T.g_NoSteady rfl) pa_nil)))))))))) pa_nil))))
      (pss_cons (ps_set (i := 6) sc_l_told.nd rfl (by first | exact Or.inl rfl | exact Or.inr rfl) (pe_or (pv 6) (pe_one (pe_callB (isXT (K := K) rfl) (by rfl) T.b_isinstance (by decide +kernel) (pa_cons (pv 2) (pa_cons (pe_tupI (pa_cons (pe_glob (v := .ref T.C_NoTelling) rfl T.g_NoTelling rfl) (pa_cons (pe_glob (v := .ref T.C_NotCured) rfl T.g_NotCured rfl) (pa_cons (pe_glob (v := .ref T.C_NotReady) rfl T.g_NotReady rfl) (pa_cons (pe_glob (v := .ref T.C_TooStrong) rfl T.g_TooStrong rfl) pa_nil))))) pa_nil))))))
      (pss_cons (ps_if (PW.pt (pw_or (pt_val (pv 6)) (pw_or (pt_cmpR op_ne (pe_bm PySem.F.plainAttrs_list PySem.F.slot_list_count PySem.F.type_list_count (mt_cntB (K := K) rfl) (pv 5) (pa_cons pe_bl pa_nil)) pe_int (nomark _)) (pw_or1 (pt_not (pt_val (pe_callB (isX (K := K) rfl) (by rfl) T.b_isinstance (by decide +kernel) (pa_cons (pv 2) (pa_cons (pe_bltn (v := .ty "ValueError") (by rfl) T.b_ValueError (by decide +kernel) rfl) pa_nil))))))))) (pss_one (ps_ret (pe_tupI (pa_cons pe_str (pa_cons pe_str (pa_cons pe_non pa_nil)))))) pss_nil)
      (pss_cons (ps_set (i := 7) sc_l_told.nd rfl (by first | exact Or.inl rfl | exact Or.inr rfl) (pe_lstI (pa_cons pe_str (pa_cons pe_str (pa_cons pe_str (pa_cons pe_str (pa_cons pe_str (pa_cons pe_str (pa_cons pe_str pa_nil)))))))))
      (pss_one (ps_ret (pe_tupI (pa_cons pe_str (pa_cons (pe_ix (ixL (K := K) rfl) (pv 7) (pe_bm PySem.F.plainAttrs_list PySem.F.slot_list_index PySem.F.type_list_index mt_index (pv 5) (pa_cons pe_bl pa_nil)) (fun _ _ => rfl)) (pa_cons (pe_what rfl (pv 2)) pa_nil)))))))))))))))), ?_⟩
  refine ⟨rfl, fun c0 H0 s0 n0 h0 => ?_⟩
  refine ⟨c0, _, rfl, SqT.of h0, rfl, _, _, rfl, _, _, rfl, rfl, ?_⟩
  refine ⟨_, rfl, _, rfl, Ad, nms, S, j, d, D, rfl, hk.same s0, nd, inv, j9, hd.tk (.same s0), ok, lay, fun v dd H1 e1 k1 d1 o1 => ?_, fun w dd v C nm H1 e1 sv lw s1 dv d2 G sm hw => ?_⟩
  · refine ⟨_, rfl, rfl, _, rfl, iteT ?_⟩
    refine ⟨_, rfl, rfl, fun a H2 s2 n2 h2 => q _ H2 (k1.same s2) ?_ (((Off.same s0).seq o1).seq (.same s2))⟩
    rw [e1]
    exact told_dtu (n := 6) (SqT.of h2) ((d1.tk (.same s2)).up (by decide))
  · obtain ⟨b1, b2, b3, b4, b5, b6, b7, jx, k1, k2, k3, k4, k5, k6, k7, ka1, ka2, kv, cnt, at_, bef, wat_, te, xf⟩ := seven_of T sv
    refine ⟨true, te, fun _ a ha => ⟨_, rfl, ?_⟩, fun z => nomatch z⟩
    have sa : Same G (upd G a (ExK (.ref C) (some d2) a)) := same_new ha
    have kp : Kept K (upd G a (ExK (.ref C) (some d2) a)) a C d2 v := ⟨xf, upd_same, ⟨_, sa _ _ hw⟩⟩
    refine ⟨_, rfl, rfl, _, rfl, iteF ?_⟩
    refine ⟨_, rfl, a, C, d2, _, .ref T.C_NoKettle, _, b1, rfl, kp, .own _, k1, _, rfl, a, C, d2, _, .ref T.C_NoRoom, _, b2, rfl, kp, .own _, k2, _, rfl, a, C, d2, _, .ref T.C_NoShare, _, b3, rfl, kp, .own _, k3, rfl, fun L1 H2 s2 n2 h2 => ?_⟩
    have kp2 := kp.same s2
    refine ⟨_, rfl, _, rfl, a, C, d2, _, .ref T.C_Empty, _, b4, rfl, kp2, .own _, k4, _, rfl, a, C, d2, _, .ref T.C_Same, _, b5, rfl, kp2, .own _, k5, _, rfl, a, C, d2, _, .ref T.C_Stopped, _, b6, rfl, kp2, .own _, k6, rfl, fun L2 H3 s3 n3 h3 => ?_⟩
    have kp3 := kp2.same s3
    refine ⟨L1, L2, _, _, rfl, rfl, s3 _ _ h2, h3, (by show 6 ≤ sizeLine; exact small (by decide)), fun L3 H4 s4 n4 h4 => ?_⟩
    have kp4 := kp3.same s4
    have aL : a ≠ L3 := fun e => by
      have z := kp3.ob
      rw [e, n4] at z
      cases z
    have dL : d2 ≠ L3 := fun e => by
      obtain ⟨z0, z⟩ := kp3.di
      rw [e, n4] at z
      cases z
    refine ⟨_, rfl, .inl ⟨rfl, _, SqL.of h4⟩, _, rfl, a, C, d2, _, .ref T.C_InWork, _, b7, rfl, kp4, .own _, k7, L3, _, _, rfl, rfl, h4, (by show 6 < sizeLine; exact small (by decide)), ?_⟩
    generalize hX : upd H4 L3 _ = H5
    have h5 : H5 L3 = some (.lst ([b1, b2, b3, b4, b5, b6, b7].map V.bl)) := by
      rw [← hX]
      exact upd_same
    have kp5 : Kept K H5 a C d2 v := by
      rw [← hX]
      exact ⟨xf, (upd_ne aL).trans kp4.ob, kp4.di.imp fun _ e => (upd_ne dL).trans e⟩
    refine ⟨_, rfl, rfl, fun tp H6 s6 n6 h6 => ?_⟩
    have kp6 := kp5.same s6
    refine ⟨a, C, d2, tp, _, _, _, false, rfl, kp6, h6, .cons (.own _) (.cons (.own _) (.cons (.own _) (.cons (.own _) (.cons (.own _) (.cons (.own _) (.cons (.own _) (.cons (.own _) (.cons (.own _) .nil)))))))), ka1, ?_⟩
    refine ⟨_, rfl, false, rfl, iteF ⟨_, rfl, rfl, fun tq H7 s7 n7 h7 => ?_⟩⟩
    have kp7 := kp6.same s7
    refine ⟨a, C, d2, tq, _, _, _, false, rfl, kp7, h7, .cons (.own _) (.cons (.own _) (.cons (.own _) (.cons (.own _) .nil))), ka2, ?_⟩
    have h57 := (s6.trans s7) _ _ h5
    refine ⟨_, rfl, false, rfl, iteF ⟨_, rfl, .inl ⟨rfl, _, SqL.of h57⟩, L3, _, true, rfl, rfl, SqL.of h57, ?_⟩⟩
    rw [cnt]
    refine ⟨rfl, _, rfl, ite_nF rfl ?_⟩
    refine ⟨_, rfl, a, C, d2, _, .ty "ValueError", _, true, rfl, kp7, .ty _, kv, _, rfl, iteF ?_⟩
    refine ⟨rfl, fun wl H8 s8 n8 h8 => ?_⟩
    have h58 := s8 _ _ h57
    have kp8 := kp7.same s8
    have hlt : jx < 7 := (List.getElem?_eq_some_iff.mp wat_).1
    have ne : ∀ (m : Nat) (z' : V), m < jx → ([b1, b2, b3, b4, b5, b6, b7].map V.bl)[m]? = some z' → eqV z' (.bl true) = false := fun m z' lt e => by
      rw [bef m lt] at e
      rw [← Option.some.inj e]
      rfl
    refine ⟨_, rfl, _, rfl, .inl ⟨rfl, _, SqL.of h58⟩, L3, _, .bl true, jx, .bl true, rfl, rfl, SqL.of h58, rfl, rfl, at_, rfl, ne, ?_⟩
    refine ⟨wl, _, _, _, rfl, rfl, SqL.of h8, atI_nat wat_, _, rfl, a, C, d2, _, rfl, kp8, rfl, fun t H9 s9 n9 h9 => ?_⟩
    have s35 : Same H3 H5 := fun x o e => by
      have z := s4 _ _ e
      rw [← hX, upd_ne (fun w => by rw [w, n4] at e; cases e)]
      exact z
    have s15 : Same H1 H9 := sm.trans (sa.trans (s2.trans (s3.trans (s35.trans (s6.trans (s7.trans (s8.trans s9)))))))
    have s09 : Same H H9 := s0.trans (s1.trans s15)
    refine q _ H9 ?_ ?_ (.same s09)
    · rw [e1]
      exact hk.same s09
    · rw [e1]
      exact (refu_dtu (SqT.of h9) lw (dv.tk (.same s15))).up (by decide)
  in #guard_msgs (pass all) in example : True := trivial

end
end KR
namespace KR
open PySem PySem.Spec PyProof.Rows L2
section
variable {P : Program} {w : World} {K : PySem.W.Frag} {mg : Str → Option Value} {base : Heap}
/-- an amount up to so much -/
structure AmOk (m : Int) (q : Rat) : Prop where
  q0 : 0 ≤ q
  q1 : q ≤ (m : Rat)
  qd : Dv B60 q
def sp_kamount (K : PySem.W.Frag) : Sp := fun vs H Q _ => ∃ (b : Addr) (n : Nat) (m : Int), vs = [.ref b, .int m] ∧ BoxAt H b n ∧ n ≤ 900000000 ∧ 1 ≤ m ∧ m ≤ 1000000 ∧ ∀ a q H', BoxAt H' b (n + 3) → Off K (· = b) H H' → FrQ K H' a q → AmOk m q → Q (.ref a) H'
set_option Elab.async true in
theorem ok_l_amount (T : All K mg) : FnOk P w K mg base CX0 2 T.f_l_amount T.fd_l_amount ["_law_box_here", "_law_most"] (sp_kamount K) := by
  refine T.d_l_amount.fn.ok sc_l_amount (fun vs H Q E h => ?_) (fun cdv A outer s H vs Q E hr h => ?_)
  · obtain ⟨b, n, m, rfl, _⟩ := h
    rfl
  · obtain ⟨b, n, m, rfl, hB, hn, m0, m9, q⟩ := h
    refine ⟨_, (pss_cons (ps_par (i := 2) (j := 3) (by rfl) sc_l_amount.nd rfl rfl (by decide) rfl rfl (pa_cons (pe_call (ok_l_take T) hr (by rfl) T.d_l_take.mg T.d_l_take.fn.kp T.d_l_take.b .nil pass0 (pa_cons (pv 0) (pa_cons pe_int pa_nil))) (pa_cons (pe_op op_add pe_int (pe_call (ok_l_take T) hr (by rfl) T.d_l_take.mg T.d_l_take.fn.kp T.d_l_take.b .nil pass0 (pa_cons (pv 0) (pa_cons pe_int pa_nil)))) pa_nil)) (by rfl))
      (pss_cons (ps_if (pt_cmpR op_eq (pv 2) pe_int (nomark _)) (pss_one (ps_ret (pe_tupI (pa_cons pe_int (pa_cons pe_int pa_nil))))) pss_nil)
      (pss_one (ps_ret (pe_ifExp (pt_cmpR op_eq (pv 2) pe_int (nomark _)) (pe_tupI (pa_cons (pe_call (ok_l_take T) hr (by rfl) T.d_l_take.mg T.d_l_take.fn.kp T.d_l_take.b .nil pass0 (pa_cons (pv 0) (pa_cons (pe_op op_add (pv 1) pe_int) pa_nil))) (pa_cons pe_int pa_nil))) (pe_call (ok_l_low T) hr (by rfl) T.d_l_low.mg T.d_l_low.fn.kp T.d_l_low.b .nil pass0 (pa_cons (pe_call (ok_l_take T) hr (by rfl) T.d_l_take.mg T.d_l_take.fn.kp T.d_l_take.b .nil pass0 (pa_cons (pv 0) (pa_cons (pe_op op_add (pe_op op_mulX (pv 1) (pv 3)) pe_int) pa_nil))) (pa_cons (pv 3) pa_nil)))))))), ?_⟩
    refine ⟨_, rfl, b, 4, _, rfl, hB, by omega, by decide, by decide, fun y H1 y0 y1 B1 F1 => ?_⟩
    refine ⟨_, rfl, b, 60, _, rfl, B1, by omega, by decide, by decide, fun z H2 z0 z1 B2 F2 => ⟨_, _, rfl, rfl, _, _, rfl, ?_⟩⟩
    have o2 : Off K (· = b) H H2 := (Off.box hB F1).seq (.box B1 F2)
    refine ⟨_, rfl, rfl, _, rfl, ?_⟩
    have z0q : AmOk m 0 := ⟨Rat.le_refl, by
      have : ((0 : Int) : Rat) ≤ (m : Rat) := Rat.intCast_le_intCast.mpr (by omega)
      exact this, Dv.zero⟩
    by_cases c0 : V.int y = V.int 0
    · rw [decide_eq_true c0]
      refine ⟨rfl, fun a H3 s3 n3 h3 => ?_⟩
      exact q a 0 H3 ((B2.same s3).mono (by omega)) (o2.seq (.same s3)) (FrQ.int (z := 0) h3) z0q
    rw [decide_eq_false c0]
    refine ⟨_, rfl, rfl, _, rfl, ?_⟩
    by_cases c1 : V.int y = V.int 1
    · rw [decide_eq_true c1]
      refine ⟨_, rfl, _, rfl, _, _, rfl, rfl, b, (m + 1).toNat, _, ?_, B2, by omega, by omega, by omega, fun u H3 u0 u1 B3 F3 => ⟨rfl, fun a H4 s4 n4 h4 => ?_⟩⟩
      · show [V.ref b, V.int (m + 1)] = [V.ref b, V.int ((m + 1).toNat : Int)]
        rw [show (((m + 1).toNat : Nat) : Int) = m + 1 by omega]
      · refine q a (u : Rat) H4 (B3.same s4) ((o2.seq (.box B2 F3)).seq (.same s4)) (FrQ.int h4) ⟨?_, Rat.intCast_le_intCast.mpr (by omega), Dv.int u⟩
        have : ((0 : Int) : Rat) ≤ (u : Rat) := Rat.intCast_le_intCast.mpr u0
        exact this
    rw [decide_eq_false c1]
    have p1 : (m : Int).natAbs < 2 ^ 21 := by omega
    have p2 : (1 + z : Int).natAbs < 2 ^ 7 := by omega
    have mz0 : 0 ≤ m * (1 + z) := Int.mul_nonneg (by omega) (by omega)
    have mz9 : m * (1 + z) ≤ 1000000 * 60 := Int.mul_le_mul m9 (by omega) (by omega) (by decide)
    refine ⟨_, rfl, _, rfl, _, rfl, _, _, rfl, rfl, mulW p1 p2 (by decide) (by decide) (by decide), _, _, rfl, rfl, ?_⟩
    generalize hN : m * (1 + z) = N at mz0 mz9
    refine ⟨b, (N + 1).toNat, _, ?_, B2, by omega, by omega, by omega, fun u H3 u0 u1 B3 F3 => ?_⟩
    · show [V.ref b, V.int (N + 1)] = [V.ref b, V.int ((N + 1).toNat : Int)]
      rw [show (((N + 1).toNat : Nat) : Int) = N + 1 by omega]
    refine ⟨_, rfl, _, _, rfl, by omega, lt_up (show u.natAbs < 2 ^ 30 by omega) (by decide), lt_up p2 (by decide), fun a H4 s4 n4 h4 => ?_⟩
    refine q a _ H4 (B3.same s4) ((o2.seq (.box B2 F3)).seq (.same s4)) h4 ⟨rq_nn u0 (by omega), ?_, (Dv.rq (t := u) (b := 1 + z) (by omega)).up (b60 _ (by omega) (by omega))⟩
    show (u : Rat) / ((1 + z : Int) : Rat) ≤ (m : Rat)
    have h0 : (0 : Rat) < ((1 + z : Int) : Rat) := by
      have : ((0 : Int) : Rat) < ((1 + z : Int) : Rat) := Rat.intCast_lt_intCast.mpr (by omega)
      exact this
    have h1 : (u : Rat) ≤ (m : Rat) * ((1 + z : Int) : Rat) := by
      rw [← Rat.intCast_mul, hN]
      exact Rat.intCast_le_intCast.mpr (by omega)
    have e : (u : Rat) / ((1 + z : Int) : Rat) * ((1 + z : Int) : Rat) = u := by
      have : ((1 + z : Int) : Rat) ≠ 0 := fun z => by rw [z] at h0; exact Rat.lt_irrefl h0
      grind
    refine Classical.byContradiction fun c => ?_
    have c := Rat.not_le.mp c
    have k := Rat.mul_lt_mul_of_pos_right c h0
    grind
  in #guard_msgs (pass all) in example : True := trivial

end
end KR
namespace KR
open PySem PySem.Spec PyProof.Rows L2
section
variable {P : Program} {w : World} {K : PySem.W.Frag} {mg : Str → Option Value} {base : Heap}
/-- a juice that a law pours -/
structure JuD (u s w : Rat) : Prop where
  s0 : 0 ≤ s
  s9 : s ≤ 1000000
  w0 : 0 ≤ w
  w9 : w ≤ 1000000
  sd : Dv B60 s
  wd : Dv B60 w ∨ Dv (B60 * u.num.natAbs) w
def sp_kjuice (K : PySem.W.Frag) : Sp := fun vs H Q _ => ∃ (b : Addr) (n : Nat) (l : Addr) (xs : List V) (room : Int) (m : Addr) (u : Rat), vs = [.ref b, .ref l] ∧ BoxAt H b n ∧ n ≤ 800000000 ∧ l ≠ b ∧ H l = some (.lst xs) ∧ atI xs 0 = some (.int room) ∧ atI xs 2 = some (.ref m) ∧ FrQ K H m u ∧ MOk u ∧ 1 ≤ room ∧ room ≤ 1000000 ∧
  ∀ a s w H', BoxAt H' b (n + 8) → Off K (· = b) H H' → JuQ K H' a s w → JuD u s w → Q (.ref a) H'
set_option Elab.async true in
theorem ok_l_juice (T : All K mg) : FnOk P w K mg base CX0 3 T.f_l_juice T.fd_l_juice ["_law_box_here", "_law_row_here"] (sp_kjuice K) := by
  refine T.d_l_juice.fn.ok sc_l_juice (fun vs H Q E h => ?_) (fun cdv A outer s H vs Q E hr h => ?_)
  · obtain ⟨b, n, l, xs, room, m, u, rfl, _⟩ := h
    rfl
  obtain ⟨b, n, l, xs, room, m, u, rfl, hB, hn, lb, h1, a0, a2, hm, mo, r1, r9, q⟩ := h
  refine ⟨_, (pss_cons (ps_set (i := 2) sc_l_juice.nd rfl (by first | exact Or.inl rfl | exact Or.inr rfl) (pe_callB (call_max2 rfl) (by rfl) T.b_max (by decide +kernel) (pa_cons pe_int (pa_cons (pe_ix (ixL (K := K) rfl) (pe_lstI (pa_cons (pe_op op_fdivW (pe_ix (ixL (K := K) rfl) (pv 1) pe_int (fun _ _ => rfl)) pe_int) (pa_cons (pe_op op_fdivW (pe_ix (ixL (K := K) rfl) (pv 1) pe_int (fun _ _ => rfl)) pe_int) (pa_cons (pe_ix (ixL (K := K) rfl) (pv 1) pe_int (fun _ _ => rfl)) pa_nil)))) (pe_call (ok_l_take T) (hr.mono (by decide)) (by rfl) T.d_l_take.mg T.d_l_take.fn.kp T.d_l_take.b .nil pass0 (pa_cons (pv 0) (pa_cons pe_int pa_nil))) (fun _ _ => rfl)) pa_nil))))
      (pss_cons (ps_par (i := 3) (j := 4) (by rfl) sc_l_juice.nd rfl rfl (by decide) rfl rfl (pa_cons (pe_call (ok_l_amount T) hr (by rfl) T.d_l_amount.mg T.d_l_amount.fn.kp T.d_l_amount.b .nil pass0 (pa_cons (pv 0) (pa_cons (pv 2) pa_nil))) (pa_cons (pe_call (ok_l_amount T) hr (by rfl) T.d_l_amount.mg T.d_l_amount.fn.kp T.d_l_amount.b .nil pass0 (pa_cons (pv 0) (pa_cons (pv 2) pa_nil))) pa_nil)) (by rfl))
      (pss_cons (ps_set (i := 5) sc_l_juice.nd rfl (by first | exact Or.inl rfl | exact Or.inr rfl) (pe_call (ok_l_by T) hr (by rfl) T.d_l_by.mg T.d_l_by.fn.kp T.d_l_by.b .nil pass0 (pa_cons (pv 3) (pa_cons (pe_call (ok_l_low T) (hr.mono (by decide)) (by rfl) T.d_l_low.mg T.d_l_low.fn.kp T.d_l_low.b .nil pass0 (pa_cons (pe_op op_sub (pe_ix (ixT (K := K) rfl) (pe_ix (ixL (K := K) rfl) (pv 1) pe_int (fun _ _ => rfl)) pe_int (fun _ _ => rfl)) (pe_ix (ixT (K := K) rfl) (pe_ix (ixL (K := K) rfl) (pv 1) pe_int (fun _ _ => rfl)) pe_int (fun _ _ => rfl))) (pa_cons (pe_ix (ixT (K := K) rfl) (pe_ix (ixL (K := K) rfl) (pv 1) pe_int (fun _ _ => rfl)) pe_int (fun _ _ => rfl)) pa_nil))) pa_nil))))
      (pss_cons (ps_J (ps_if (PW.pt (pw_and (pt_cmpR op_eq (pe_call (ok_l_take T) (hr.mono (by decide)) (by rfl) T.d_l_take.mg T.d_l_take.fn.kp T.d_l_take.b .nil pass0 (pa_cons (pv 0) (pa_cons pe_int pa_nil))) pe_int (nomark _)) (pw_and1 (pt_not (pt_val (pe_call (ok_l_less T) (hr.mono (by decide)) (by rfl) T.d_l_less.mg T.d_l_less.fn.kp T.d_l_less.b .nil pass0 (pa_cons (pe_tupI (pa_cons (pe_op op_pow pe_int pe_int) (pa_cons pe_int pa_nil))) (pa_cons (pv 5) pa_nil)))))))) (pss_one (ps_set (i := 4) sc_l_juice.nd rfl (by first | exact Or.inl rfl | exact Or.inr rfl) (pv 5))) pss_nil))
      (pss_one (ps_ret (pe_ifExp (pt_cmpR (neDK (K := K) rfl hr.units) (pe_tupI (pa_cons (pv 3) (pa_cons (pv 4) pa_nil))) (pe_tupI (pa_cons (pe_tupI (pa_cons pe_int (pa_cons pe_int pa_nil))) (pa_cons (pe_tupI (pa_cons pe_int (pa_cons pe_int pa_nil))) pa_nil))) (nomark _)) (pe_tupI (pa_cons (pv 3) (pa_cons (pv 4) pa_nil))) (pe_tupI (pa_cons (pe_tupI (pa_cons pe_int (pa_cons pe_int pa_nil))) (pa_cons (pe_tupI (pa_cons pe_int (pa_cons pe_int pa_nil))) pa_nil)))))))))), ?_⟩
  have hm' : SqT K H m [.int u.num, .int (u.den : Int)] := hm
  obtain ⟨n0, n1⟩ := mo.num
  have d := mo.ud
  obtain ⟨pe, pz⟩ := mo.per
  have dv0 : ∀ i : Int, 0 < i → i.natAbs < 2 ^ 13 → CDivW room i := fun i i0 i1 => ⟨i0, Nat.lt_of_le_of_lt (Nat.log2_le_self _) (Nat.lt_trans i1 (by decide))⟩
  refine ⟨_, rfl, l, _, 0, _, rfl, rfl, SqL.of h1, a0, _, _, rfl, rfl, dv0 6 (by decide) (by decide), ?_⟩
  refine ⟨_, rfl, l, _, 0, _, rfl, rfl, SqL.of h1, a0, _, _, rfl, rfl, dv0 2 (by decide) (by decide), ?_⟩
  refine ⟨_, rfl, l, _, 0, _, rfl, rfl, SqL.of h1, a0, rfl, fun L1 H1 s1 n1' hL1 => ?_⟩
  refine ⟨_, rfl, b, 3, n, rfl, hB.same s1, by omega, by decide, by decide, fun z H2 z0 z1 B2 F2 => ?_⟩
  have o2 : Off K (· = b) H H2 := (Off.same s1).seq (.box (hB.same s1) F2)
  have hL2 := F2 _ _ (fun e => by rw [e] at n1'; exact absurd (hB.new n1') (fun z => z rfl)) hL1
  obtain ⟨y, ey, y0, y9⟩ : ∃ y, atI [V.int (room / 6), V.int (room / 2), V.int room] z = some (.int y) ∧ 0 ≤ y ∧ y ≤ 1000000 := by
    rcases (by omega : z = 0 ∨ z = 1 ∨ z = 2) with rfl | rfl | rfl
    · exact ⟨_, at0, by omega, by omega⟩
    · exact ⟨_, at1, by omega, by omega⟩
    · exact ⟨_, at2, by omega, by omega⟩
  refine ⟨L1, _, z, _, rfl, rfl, SqL.of hL2, ey, 1, y, rfl, ?_⟩
  obtain ⟨m1, m9⟩ : 1 ≤ (if y > 1 then y else 1) ∧ (if y > 1 then y else 1) ≤ 1000000 := by
    split
    · omega
    · omega
  generalize (if y > 1 then y else 1) = most at m1 m9
  refine ⟨_, rfl, _, rfl, b, n + 1, most, rfl, B2, by omega, m1, m9, fun sa sq H3 B3 o3 hs as => ?_⟩
  refine ⟨_, rfl, _, rfl, b, n + 4, most, rfl, B3, by omega, m1, m9, fun wa wq H4 B4 o4 hw aw => ?_⟩
  have o04 : Off K (· = b) H H4 := (o2.seq o3).seq o4
  have h4 := o04.lst lb h1
  have hm4 : FrQ K H4 m u := hm.tk o04.tk
  have hm4' : SqT K H4 m [.int u.num, .int (u.den : Int)] := hm4
  have hs4 := hs.tk o4.tk
  have kx : KOk B60 u.num.natAbs ⟨1000000, 0, u, sq, 0, true⟩ := ⟨(by decide : (1:Int) ≤ 1000000), (by decide : (1000000:Int) ≤ 1000000), (by decide : (0:Int) ≤ 0), (by decide : (0:Int) ≤ 10000), mo, Nat.dvd_refl _, as.q0, Rat.le_refl, by
    have a1 := as.q1
    have a2 : (most : Rat) ≤ ((1000000 : Int) : Rat) := Rat.intCast_le_intCast.mpr m9
    show sq + 0 ≤ ((1000000 : Int) : Rat)
    grind, as.qd, Dv.zero⟩
  have l8 : u.num.natAbs ≤ 60 ^ 8 := Nat.le_trans (show u.num.natAbs ≤ 60 by omega) (by decide)
  have nn := KInv.nok (nms := []) (j := 0) (M := B60) (L := u.num.natAbs) (by decide) (by decide +kernel) (by rw [Nat.pow_zero, Nat.mul_one]; exact Nat.le_refl _) (by omega) l8
  obtain ⟨rb, _⟩ := kx.rbig nn
  have bs : Big sq := rb.s
  have bw : Big (wat sq u) := rb.l
  have w00 : 0 ≤ wat sq u := (kx.wat_in nn).2
  have wdv : Dv (B60 * u.num.natAbs) (wat sq u) := kx.wat_dv
  have up6 : ∀ {x : Rat}, x ≤ (most : Rat) → x ≤ 1000000 := fun {x} a1 => by
    have a2 : (most : Rat) ≤ ((1000000 : Int) : Rat) := Rat.intCast_le_intCast.mpr m9
    have a3 : ((1000000 : Int) : Rat) = 1000000 := rfl
    grind
  refine ⟨_, _, rfl, ?_⟩
  refine ⟨_, rfl, ?_⟩
  refine ⟨_, rfl, l, _, 2, _, rfl, rfl, SqL.of h4, a2, m, _, 1, _, rfl, rfl, hm4', at1, ?_⟩
  refine ⟨_, rfl, l, _, 2, _, rfl, rfl, SqL.of h4, a2, m, _, 0, _, rfl, rfl, hm4', at0, _, _, rfl, rfl, ?_⟩
  refine ⟨_, rfl, l, _, 2, _, rfl, rfl, SqL.of h4, a2, m, _, 0, _, rfl, rfl, hm4', at0, ?_⟩
  refine ⟨_, _, rfl, by omega, lt_up (show ((u.den : Int) - u.num).natAbs < 2 ^ 20 by omega) (by decide), lt_up (show u.num.natAbs < 2 ^ 20 by omega) (by decide), fun z H5 s5 n5' hz => ?_⟩
  refine ⟨sa, z, sq, _, rfl, hs4.same s5, hz, bs, pz.up (by decide), trivial, fun ja H6 s6 n6 h6 => ?_⟩
  have h6 : FrQ K H6 ja (sq * rq ((u.den : Int) - u.num) u.num) := h6
  rw [pe, wat_per mo.ne] at h6
  have s46 := s5.trans s6
  have B6 := (B4.same s46)
  refine ⟨fun σ H' => ∃ (wa' : Addr) (w' : Rat), σ = [some (.ref b), some (.ref l), some (.int most), some (.ref sa), some (.ref wa'), some (.ref ja)] ∧ BoxAt H' b (n + 8) ∧ Off K (· = b) H6 H' ∧ FrQ K H' wa' w' ∧ JuD u sq w', ?_, ?_⟩
  case' refine_2 =>
    have j1 : JuD u sq wq := ⟨as.q0, up6 as.q1, aw.q0, up6 aw.q1, as.qd, .inl aw.qd⟩
    refine ⟨_, rfl, b, 5, n + 7, rfl, B6, by omega, by decide, by decide, fun y2 H7 y3 y4 B7 F7 => ?_⟩
    have o67 : Off K (· = b) H6 H7 := .box B6 F7
    refine ⟨rfl, _, rfl, ?_⟩
    by_cases c0 : V.int y2 = V.int 0
    · rw [decide_eq_true c0]
      refine ⟨_, _, rfl, rfl, ⟨by decide, by decide, by decide⟩, rfl, fun tp H8 s8 n8 h8 => ?_⟩
      have h6' := (h6.tk o67.tk).same s8
      have ht : FrQ K H8 tp ((1000000 : Int) : Rat) := FrQ.int (z := 1000000) (by exact h8)
      refine ⟨_, rfl, tp, ja, ((1000000 : Int) : Rat), wat sq u, rfl, ht, h6', Sz.up (n := 21) (Sz.int (by decide) (by decide)) (by decide), bw, _, rfl, ?_⟩
      have o68 : Off K (· = b) H6 H8 := o67.seq (.same s8)
      by_cases c : ((1000000 : Int) : Rat) < wat sq u
      · rw [decide_eq_true c]
        exact ite_bF (b := !true) rfl ⟨wa, wq, rfl, B7.same s8, o68, hw.tk ((Off.same (K := K) (R := fun _ => False) s46).tk.trans o68.tk), j1⟩
      · rw [decide_eq_false c]
        exact ite_bT (b := !false) rfl ⟨_, rfl, ja, wat sq u, rfl, B7.same s8, o68, h6.tk o68.tk, as.q0, up6 as.q1, w00, by
          have a3 : ((1000000 : Int) : Rat) = 1000000 := rfl
          grind, as.qd, .inr wdv⟩
    · rw [decide_eq_false c0]
      exact ⟨wa, wq, rfl, B7, o67, hw.tk ((Off.same (K := K) (R := fun _ => False) s46).tk.trans o67.tk), j1⟩
  rintro σ H' ⟨wa', w', rfl, B8, o8, hw', ju⟩
  have o48 : Off K (· = b) H4 H' := (Off.same s46).seq o8
  have hs8 := hs4.tk o48.tk
  refine ⟨_, rfl, _, rfl, rfl, fun t1 H9 s9 n9 h9 => ⟨rfl, fun u1 Ha sa' na ha => ⟨rfl, fun u2 Hb sb nb hb => ⟨rfl, fun u3 Hc sc nc hc => ?_⟩⟩⟩⟩
  have s8c := s9.trans (sa'.trans (sb.trans sc))
  have ho : Off K (· = b) H Hc := ((o04.seq o48).seq (.same s8c))
  have j1 : JuQ K Hc t1 sq w' := ⟨sa, wa', SqT.of ((sa'.trans (sb.trans sc)) _ _ h9), hs8.same s8c, hw'.same s8c⟩
  have z1 : FrQ K Hc u1 ((0 : Int) : Rat) := FrQ.int ((sb.trans sc) _ _ ha)
  have z2 : FrQ K Hc u2 ((0 : Int) : Rat) := FrQ.int (sc _ _ hb)
  have j2 : JuQ K Hc u3 ((0 : Int) : Rat) ((0 : Int) : Rat) := ⟨u1, u2, SqT.of hc, z1, z2⟩
  refine ⟨dj sq w', dj 0 0, j1.dp, j2.dp, rfl, rfl, ?_⟩
  refine ⟨_, rfl, ?_⟩
  refine ite2 (fun c => ?_) (fun c => ?_)
  · refine ⟨_, rfl, _, rfl, rfl, fun t2 Hd sd nd hd => ?_⟩
    exact q t2 sq w' Hd ((B8.same s8c).same sd) (ho.seq (.same sd)) ⟨sa, wa', SqT.of hd, hs8.same (s8c.trans sd), hw'.same (s8c.trans sd)⟩ ju
  · refine ⟨rfl, fun v1 Hd sd nd hd => ⟨rfl, fun v2 He se ne he => ⟨rfl, fun v3 Hf sf nf hf => ?_⟩⟩⟩
    have sx := sd.trans (se.trans sf)
    have q1 : FrQ K Hf v1 (1 / 60 : Rat) := by
      show SqT K Hf v1 [.int (1 / 60 : Rat).num, .int ((1 / 60 : Rat).den : Int)]
      rw [show (1 / 60 : Rat).num = 1 by decide +kernel, show (((1 / 60 : Rat).den : Nat) : Int) = 60 by decide +kernel]
      exact SqT.of ((se.trans sf) _ _ hd)
    have q2 : FrQ K Hf v2 ((0 : Int) : Rat) := FrQ.int (sf _ _ he)
    refine q v3 (1 / 60) 0 Hf ((B8.same s8c).same sx) (ho.seq (.same sx)) ⟨v1, v2, SqT.of hf, q1, q2⟩ ⟨by decide +kernel, by decide +kernel, by decide +kernel, by decide +kernel, ⟨((B60 / 60 : Nat) : Int), by decide +kernel⟩, .inl Dv.zero⟩
  in #guard_msgs (pass all) in example : True := trivial

end
end KR
namespace KR
open PySem PySem.Spec PyProof.Rows L2
section
variable {P : Program} {w : World} {K : PySem.W.Frag} {mg : Str → Option Value} {base : Heap}
def sp_ksome (K : PySem.W.Frag) : Sp := fun vs H Q _ => ∃ (b : Addr) (n : Nat), vs = [.ref b] ∧ BoxAt H b n ∧ n ≤ 900000000 ∧ ∀ a q H', BoxAt H' b (n + 4) → Off K (· = b) H H' → FrQ K H' a q → SAny q → Q (.ref a) H'
set_option Elab.async true in
theorem ok_l_some_share (T : All K mg) : FnOk P w K mg base CX0 3 T.f_l_some_share T.fd_l_some_share ["_law_box_here"] (sp_ksome K) := by
  refine T.d_l_some_share.fn.ok sc_l_some_share (fun vs H Q E h => ?_) (fun cdv A outer s H vs Q E hr h => ?_)
  · obtain ⟨b, n, rfl, _⟩ := h
    rfl
  · obtain ⟨b, n, rfl, hB, hn, q⟩ := h
    refine ⟨_, (pss_cons (ps_set (i := 1) sc_l_some_share.nd rfl (by first | exact Or.inl rfl | exact Or.inr rfl) (pe_call (ok_l_share T) hr (by rfl) T.d_l_share.mg T.d_l_share.fn.kp T.d_l_share.b .nil pass0 (pa_cons (pv 0) pa_nil)))
      (pss_cons (ps_set (i := 2) sc_l_some_share.nd rfl (by first | exact Or.inl rfl | exact Or.inr rfl) (pe_lstI (pa_cons (pe_tupI (pa_cons pe_int (pa_cons pe_int pa_nil))) (pa_cons (pe_tupI (pa_cons (pe_un un_neg pe_int) (pa_cons pe_int pa_nil))) (pa_cons (pe_tupI (pa_cons pe_int (pa_cons pe_int pa_nil))) (pa_cons (pe_tupI (pa_cons pe_int (pa_cons pe_int pa_nil))) (pa_cons (pe_tupI (pa_cons pe_int (pa_cons pe_int pa_nil))) (pa_cons (pe_tupI (pa_cons pe_int (pa_cons pe_int pa_nil))) (pa_cons (pe_tupI (pa_cons (pe_un un_neg pe_int) (pa_cons pe_int pa_nil))) (pa_cons (pe_tupI (pa_cons pe_int (pa_cons pe_int pa_nil))) pa_nil))))))))))
      (pss_one (ps_ret (pe_ifExp (pt_cmpR op_eq (pe_call (ok_l_take T) (hr.mono (by decide)) (by rfl) T.d_l_take.mg T.d_l_take.fn.kp T.d_l_take.b .nil pass0 (pa_cons (pv 0) (pa_cons pe_int pa_nil))) pe_int (nomark _)) (pe_ix (ixL (K := K) rfl) (pv 2) (pe_call (ok_l_take T) (hr.mono (by decide)) (by rfl) T.d_l_take.mg T.d_l_take.fn.kp T.d_l_take.b .nil pass0 (pa_cons (pv 0) (pa_cons pe_int pa_nil))) (fun _ _ => rfl)) (pv 1)))))), ?_⟩
    refine ⟨_, rfl, b, _, rfl, hB, by omega, fun sa t H1 ok q0 q1 hsa B1 F1 => ?_⟩
    refine ⟨rfl, fun f0 H2 s2 m2 w2 => ?_⟩
    refine ⟨_, rfl, rfl, fun f1 H3 s3 m3 w3 => ?_⟩
    refine ⟨rfl, fun f2 H4 s4 m4 w4 => ?_⟩
    refine ⟨rfl, fun f3 H5 s5 m5 w5 => ?_⟩
    refine ⟨rfl, fun f4 H6 s6 m6 w6 => ?_⟩
    refine ⟨rfl, fun f5 H7 s7 m7 w7 => ?_⟩
    refine ⟨_, rfl, rfl, fun f6 H8 s8 m8 w8 => ?_⟩
    refine ⟨rfl, fun f7 H9 s9 m9 w9 => ?_⟩
    refine ⟨rfl, fun L HL sL mL wL => ?_⟩
    have o1 : Off K (· = b) H H1 := .box hB F1
    have sA : Same H1 HL := s2.trans (s3.trans (s4.trans (s5.trans (s6.trans (s7.trans (s8.trans (s9.trans sL)))))))
    have BL := B1.same sA
    have Lb : L ≠ b := ((((((((B1.same s2).same s3).same s4).same s5).same s6).same s7).same s8).same s9).new mL
    have oL := o1.seq (.same sA)
    refine ⟨_, rfl, b, 8, _, rfl, BL, by omega, by decide, by decide, fun y HY y0 y1 BY FY => ⟨rfl, _, rfl, ?_⟩⟩
    have oY := oL.seq (.box BL FY)
    by_cases c : V.int y = V.int 0
    case neg =>
      rw [decide_eq_false c]
      refine ⟨_, rfl, q sa t HY (BY.mono (by omega)) oY ((hsa.same sA).tk (Off.box (K := K) BL FY).tk) ⟨?_, ?_⟩⟩
      · obtain ⟨z1, z2, z3⟩ := ok; omega
      · obtain ⟨z1, z2, z3⟩ := ok; omega
    rw [decide_eq_true c]
    refine ⟨_, rfl, _, rfl, b, 8, _, rfl, BY, by omega, by decide, by decide, fun u HU u0 u1 BU FU => ?_⟩
    have oU := oY.seq (.box BY FU)
    have tU : TK K HL HU := (Off.box (K := K) BL FY).tk.trans (Off.box (K := K) BY FU).tk
    obtain ⟨fa, p, ef, hfa, hp⟩ : ∃ (fa : Addr) (p : Rat), atI ([V.ref f0, V.ref f1, V.ref f2, V.ref f3, V.ref f4, V.ref f5, V.ref f6, V.ref f7] : List V) u = some (.ref fa) ∧ FrQ K HU fa p ∧ SAny p := by
      have g : ∀ {c : Addr} {x y : Int} {q : Rat}, SqT K HU c [.int x, .int y] → q.num = x → (q.den : Int) = y → FrQ K HU c q := fun h e1 e2 => by
        show SqT K HU _ [.int _, .int _]
        rw [e1, e2]
        exact h
      have w : u = 0 ∨ u = 1 ∨ u = 2 ∨ u = 3 ∨ u = 4 ∨ u = 5 ∨ u = 6 ∨ u = 7 := by omega
      rcases w with e | e | e | e | e | e | e | e <;> subst e
      · exact ⟨f0, (0 : Rat), rfl, g (tU _ _ (SqT.of ((s3.trans (s4.trans (s5.trans (s6.trans (s7.trans (s8.trans (s9.trans (sL)))))))) _ _ w2))) (by decide +kernel) (by decide +kernel), by constructor <;> decide +kernel⟩
      · exact ⟨f1, (-1 / 2 : Rat), rfl, g (tU _ _ (SqT.of ((s4.trans (s5.trans (s6.trans (s7.trans (s8.trans (s9.trans (sL))))))) _ _ w3))) (by decide +kernel) (by decide +kernel), by constructor <;> decide +kernel⟩
      · exact ⟨f2, (13 / 12 : Rat), rfl, g (tU _ _ (SqT.of ((s5.trans (s6.trans (s7.trans (s8.trans (s9.trans (sL)))))) _ _ w4))) (by decide +kernel) (by decide +kernel), by constructor <;> decide +kernel⟩
      · exact ⟨f3, (1 / 13 : Rat), rfl, g (tU _ _ (SqT.of ((s6.trans (s7.trans (s8.trans (s9.trans (sL))))) _ _ w5))) (by decide +kernel) (by decide +kernel), by constructor <;> decide +kernel⟩
      · exact ⟨f4, (2 : Rat), rfl, g (tU _ _ (SqT.of ((s7.trans (s8.trans (s9.trans (sL)))) _ _ w6))) (by decide +kernel) (by decide +kernel), by constructor <;> decide +kernel⟩
      · exact ⟨f5, (12 / 13 : Rat), rfl, g (tU _ _ (SqT.of ((s8.trans (s9.trans (sL))) _ _ w7))) (by decide +kernel) (by decide +kernel), by constructor <;> decide +kernel⟩
      · exact ⟨f6, (-1 : Rat), rfl, g (tU _ _ (SqT.of ((s9.trans (sL)) _ _ w8))) (by decide +kernel) (by decide +kernel), by constructor <;> decide +kernel⟩
      · exact ⟨f7, (7 / 60 : Rat), rfl, g (tU _ _ (SqT.of ((sL) _ _ w9))) (by decide +kernel) (by decide +kernel), by constructor <;> decide +kernel⟩
    refine ⟨L, _, u, _, rfl, rfl, SqL.of (FU _ _ Lb (FY _ _ Lb wL)), ef, ?_⟩
    exact q fa p HU (BU.mono (by omega)) oU hfa hp
  in #guard_msgs (pass all) in example : True := trivial

end
end KR
namespace KR
open PySem PySem.Spec PyProof.Rows L2
section
variable {P : Program} {w : World} {K : PySem.W.Frag} {mg : Str → Option Value} {base : Heap}
def sp_kname (K : PySem.W.Frag) : Sp := fun vs H Q _ => ∃ (b : Addr) (n : Nat) (B : LKA) (nms : List Str) (S : KS), vs = [.ref b, .ref B.a] ∧ BoxAt H b n ∧ n ≤ 900000000 ∧ LKAt K H B nms S ∧ nms ≠ [] ∧ ∀ x H', KNm nms x → BoxAt H' b (n + 2) → Off K (· = b) H H' → Q (.str x) H'
set_option Elab.async true in
theorem ok_l_name (T : All K mg) : FnOk P w K mg base CX0 2 T.f_l_name T.fd_l_name ["_law_box_here", "_law_state"] (sp_kname K) := by
  refine T.d_l_name.fn.ok sc_l_name (fun vs H Q E h => ?_) (fun cdv A outer s H vs Q E hr h => ?_)
  · obtain ⟨b, n, B, nms, S, rfl, _⟩ := h
    rfl
  · obtain ⟨b, n, Bd, nms, S, rfl, hB, hn, hk, ne, q⟩ := h
    refine ⟨_, (pss_cons (ps_set (i := 2) sc_l_name.nd rfl (by first | exact Or.inl rfl | exact Or.inr rfl) (pe_callTy (call_listD rfl) (by rfl) T.b_list (by decide +kernel) (pa_cons (pe_dget (hu_of hr) (pv 1) pe_str (fun _ _ => rfl)) pa_nil)))
      (pss_one (ps_ret (pe_ix (ixL (K := K) rfl) (pe_op op_catI (pv 2) (pe_lstI (pa_cons pe_str pa_nil))) (pe_call (ok_l_take T) hr (by rfl) T.d_l_take.mg T.d_l_take.fn.kp T.d_l_take.b .nil pass0 (pa_cons (pv 0) (pa_cons (pe_op op_add (pe_callB (lenQ (K := K) rfl) (by rfl) T.b_len PySem.boot_len (pa_cons (pv 2) pa_nil)) (pe_callTy call_int1 (by rfl) T.b_int (by decide +kernel) (pa_cons (pe_cmpR op_eq (pe_call (ok_l_take T) hr (by rfl) T.d_l_take.mg T.d_l_take.fn.kp T.d_l_take.b .nil pass0 (pa_cons (pv 0) (pa_cons pe_int pa_nil))) pe_int (nomark _)) pa_nil))) pa_nil))) (fun _ _ => rfl))))), ?_⟩
    obtain ⟨gv, hd, _⟩ := hk.a
    refine ⟨_, rfl, Bd.a, _, rfl, .inl ⟨_, kN "rows", .inl hd, rfl, rfl⟩, Bd.r, _, rfl, .inl hk.r, fun L nL => ?_⟩
    rw [byN_keys]
    have s1 : Same H (upd H L (.lst (nms.map V.str))) := same_new nL
    have hL1 : (upd H L (.lst (nms.map V.str))) L = some (.lst (nms.map V.str)) := upd_same
    generalize upd H L (.lst (nms.map V.str)) = H1 at s1 hL1
    refine ⟨_, rfl, rfl, fun q1 H2 s2 n2 h2 => ?_⟩
    have lm : (nms.map V.str).length = nms.length := List.length_map _
    have ln := hk.ln
    refine ⟨L, q1, _, _, rfl, rfl, s2 _ _ hL1, h2, by rw [lm]; exact small (by show nms.length + 1 ≤ 100000; omega), fun R H3 s3 n3 h3 => ?_⟩
    have s13 := s1.trans (s2.trans s3)
    have B3 := hB.same s13
    have Rb : R ≠ b := ((hB.same s1).same s2).new n3
    have l0 : 0 < nms.length := by
      cases nms with
      | nil => exact absurd rfl ne
      | cons => exact Nat.succ_pos _
    refine ⟨_, rfl, _, rfl, L, _, rfl, .inl (SqL.of ((s2.trans s3) _ _ hL1)), ?_⟩
    refine ⟨_, rfl, b, 8, _, rfl, B3, by omega, by decide, by decide, fun y H4 y0 y1 B4 F4 => ⟨rfl, .inr ⟨_, rfl, ?_⟩⟩⟩
    obtain ⟨k, ek, k1⟩ : ∃ k : Nat, (if decide (V.int y = V.int 0) = true then (1 : Int) else 0) = (k : Int) ∧ k ≤ 1 := by
      generalize decide (V.int y = V.int 0) = b
      cases b
      · exact ⟨0, rfl, by decide⟩
      · exact ⟨1, rfl, by decide⟩
    rw [ek]
    refine ⟨_, _, rfl, rfl, b, nms.length + k, _, ?_, B4, by omega, by omega, by omega, fun u H5 u0 u1 B5 F5 => ?_⟩
    · rw [lm] <;> rfl
    obtain ⟨x, ex, px⟩ : ∃ x : Str, atI ((nms.map V.str ++ [V.str "qq"]) : List V) u = some (.str x) ∧ KNm nms x := by
      by_cases c : u.toNat < nms.length
      · refine ⟨nms[u.toNat], ?_, .inl (List.getElem_mem c)⟩
        have := atI_nat (xs := nms.map V.str ++ [V.str "qq"]) (j := u.toNat) (v := .str nms[u.toNat]) (by rw [List.getElem?_append_left (by rw [lm]; exact c), List.getElem?_map, List.getElem?_eq_getElem c] <;> rfl)
        rwa [show ((u.toNat : Nat) : Int) = u by omega] at this
      · have e : u.toNat = nms.length := by omega
        refine ⟨_, ?_, .inr rfl⟩
        have := atI_nat (xs := nms.map V.str ++ [V.str "qq"]) (j := u.toNat) (v := .str "qq") (by rw [List.getElem?_append_right (by rw [lm, e]; exact Nat.le_refl _), lm, e, Nat.sub_self] <;> rfl)
        rwa [show ((u.toNat : Nat) : Int) = u by omega] at this
    refine ⟨R, _, u, _, rfl, rfl, SqL.of (F5 _ _ Rb (F4 _ _ Rb h3)), ex, ?_⟩
    exact q x H5 px B5 (((Off.same s13).seq (.box B3 F4)).seq (.box B4 F5))
  in #guard_msgs (pass all) in example : True := trivial

end
end KR
namespace KR
open PySem PySem.Spec PyProof.Rows L2
section
variable {P : Program} {w : World} {K : PySem.W.Frag} {mg : Str → Option Value} {base : Heap}
abbrev sevD : List Str := ["boil", "pour", "dip", "ladle", "skim", "stop", "start"]
def sp_kdeed2 (K : PySem.W.Frag) : Sp := fun vs H Q _ => ∃ (b : Addr) (n : Nat) (B : LKA) (nms : List Str) (S : KS) (j : Nat) (l : Addr) (ws : List Str), vs = [.ref b, .ref B.a, .ref l] ∧ BoxAt H b n ∧ n ≤ 700000000 ∧ LKAt K H B nms S ∧ nms ≠ [] ∧ KInv nms j S ∧ j ≤ 400 ∧ H l = some (.lst (ws.map V.str)) ∧ ws ≠ [] ∧ ws.length ≤ 60 ∧ (∀ w ∈ ws, w ∈ sevD) ∧ l ≠ b ∧ (∀ a, B.R nms a → a ≠ b) ∧ B.r ≠ b ∧
  ∀ d D H', BoxAt H' b (n + 40) → Off K (· = b) H H' → KDAt K H' d D → (∀ S2 : KS, (∀ y ∈ nms, (S2.st y).mark = (S.st y).mark) → KDOk nms S2 D) → Q (.ref d) H'
set_option Elab.async true in
theorem ok_l_deed (T : All K mg) : FnOk P w K mg base CX0 4 T.f_l_deed T.fd_l_deed ["_law_box_here", "_law_state", "_law_some"] (sp_kdeed2 K) := by
  refine T.d_l_deed.fn.ok sc_l_deed (fun vs H Q E h => ?_) (fun cdv A outer s H vs Q E hr h => ?_)
  · obtain ⟨b, n, B, nms, S, j, l, ws, rfl, _⟩ := h
    rfl
  obtain ⟨b, n, Bd, nms, S, j, l, ws, rfl, hB, hn, hk, nn, inv, j9, hl, w1, w9, wall, lb, Rb, rb, q⟩ := h
  refine ⟨_, (pss_cons (ps_par3 (i := 3) (j := 4) (l := 5) (by rfl) sc_l_deed.nd rfl rfl rfl (by decide) (by decide) (by decide) rfl rfl rfl (pa_cons (pe_ix (ixL (K := K) rfl) (pv 2) (pe_call (ok_l_take T) (hr.mono (by decide)) (by rfl) T.d_l_take.mg T.d_l_take.fn.kp T.d_l_take.b .nil pass0 (pa_cons (pv 0) (pa_cons (pe_callB (lenQ (K := K) rfl) (by rfl) T.b_len PySem.boot_len (pa_cons (pv 2) pa_nil)) pa_nil))) (fun _ _ => rfl)) (pa_cons (pe_call (ok_l_name T) (hr.mono (by decide)) (by rfl) T.d_l_name.mg T.d_l_name.fn.kp T.d_l_name.b .nil pass0 (pa_cons (pv 0) (pa_cons (pv 1) pa_nil))) (pa_cons (pe_call (ok_l_name T) (hr.mono (by decide)) (by rfl) T.d_l_name.mg T.d_l_name.fn.kp T.d_l_name.b .nil pass0 (pa_cons (pv 0) (pa_cons (pv 1) pa_nil))) pa_nil))) (by rfl))
      (pss_cons (ps_if (pt_cmpR op_eq (pv 3) pe_str (nomark _)) (pss_one (ps_ret (pe_tupI (pa_cons (pv 3) (pa_cons (pe_ix (ixL (K := K) rfl) (pe_lstI (pa_cons pe_int (pa_cons pe_int (pa_cons (pe_call (ok_l_take T) (hr.mono (by decide)) (by rfl) T.d_l_take.mg T.d_l_take.fn.kp T.d_l_take.b .nil pass0 (pa_cons (pv 0) (pa_cons pe_int pa_nil))) (pa_cons (pe_call (ok_l_take T) (hr.mono (by decide)) (by rfl) T.d_l_take.mg T.d_l_take.fn.kp T.d_l_take.b .nil pass0 (pa_cons (pv 0) (pa_cons pe_int pa_nil))) pa_nil))))) (pe_call (ok_l_take T) (hr.mono (by decide)) (by rfl) T.d_l_take.mg T.d_l_take.fn.kp T.d_l_take.b .nil pass0 (pa_cons (pv 0) (pa_cons pe_int pa_nil))) (fun _ _ => rfl)) pa_nil))))) pss_nil)
      (pss_cons (ps_if (pt_cmpR op_eq (pv 3) pe_str (nomark _)) (pss_one (ps_ret (pe_tupI (pa_cons (pv 3) (pa_cons (pv 4) (pa_cons (pe_call (ok_l_juice T) hr (by rfl) T.d_l_juice.mg T.d_l_juice.fn.kp T.d_l_juice.b .nil pass0 (pa_cons (pv 0) (pa_cons (pe_dget2 (hu_of hr) (pe_dget (hu_of hr) (pv 1) pe_str (fun _ _ => rfl)) (pv 4) (pe_lstI (pa_cons pe_int (pa_cons pe_int (pa_cons (pe_tupI (pa_cons pe_int (pa_cons pe_int pa_nil))) pa_nil)))) (by exact ⟨rfl, rfl, rfl, rfl⟩)) pa_nil))) pa_nil)))))) pss_nil)
      (pss_cons (ps_if (pt_cmpR op_eq (pv 3) pe_str (nomark _)) (pss_one (ps_ret (pe_tupI (pa_cons (pv 3) (pa_cons (pv 4) (pa_cons (pe_call (ok_l_some_share T) hr (by rfl) T.d_l_some_share.mg T.d_l_some_share.fn.kp T.d_l_some_share.b .nil pass0 (pa_cons (pv 0) pa_nil)) pa_nil)))))) pss_nil)
      (pss_cons (ps_if (pt_cmpR op_eq (pv 3) pe_str (nomark _)) (pss_one (ps_ret (pe_tupI (pa_cons (pv 3) (pa_cons (pv 4) (pa_cons (pv 5) (pa_cons (pe_call (ok_l_some_share T) hr (by rfl) T.d_l_some_share.mg T.d_l_some_share.fn.kp T.d_l_some_share.b .nil pass0 (pa_cons (pv 0) pa_nil)) pa_nil))))))) pss_nil)
      (pss_cons (ps_if (pt_cmpR op_eq (pv 3) pe_str (nomark _)) (pss_cons (ps_set (i := 6) sc_l_deed.nd rfl (by first | exact Or.inl rfl | exact Or.inr rfl) (pe_ifExp (pt_cmpR op_eq (pe_call (ok_l_take T) (hr.mono (by decide)) (by rfl) T.d_l_take.mg T.d_l_take.fn.kp T.d_l_take.b .nil pass0 (pa_cons (pv 0) (pa_cons pe_int pa_nil))) pe_int (nomark _)) (pe_tupI (pa_cons pe_int (pa_cons pe_int pa_nil))) (pe_call (ok_l_some_share T) hr (by rfl) T.d_l_some_share.mg T.d_l_some_share.fn.kp T.d_l_some_share.b .nil pass0 (pa_cons (pv 0) pa_nil))))
      (pss_one (ps_ret (pe_tupI (pa_cons (pv 3) (pa_cons (pv 4) (pa_cons (pe_call (ok_l_some_share T) hr (by rfl) T.d_l_some_share.mg T.d_l_some_share.fn.kp T.d_l_some_share.b .nil pass0 (pa_cons (pv 0) pa_nil)) (pa_cons (pv 6) (pa_cons (pe_ix (ixL (K := K) rfl) (pe_lstI (pa_cons (pv 5) (pa_cons (pv 4) pa_nil))) (pe_call (ok_l_take T) (hr.mono (by decide)) (by rfl) T.d_l_take.mg T.d_l_take.fn.kp T.d_l_take.b .nil pass0 (pa_cons (pv 0) (pa_cons pe_int pa_nil))) (fun _ _ => rfl)) pa_nil))))))))) pss_nil)
      (pss_one (ps_ret (pe_tupI (pa_cons (pv 3) (pa_cons (pv 4) pa_nil))))))))))), ?_⟩
  have lm : (ws.map V.str).length = ws.length := List.length_map _
  have l0 : 0 < ws.length := by
    cases ws with
    | nil => exact absurd rfl w1
    | cons => exact Nat.succ_pos _
  have ns : ∀ {a c : Str}, a ≠ c → decide (V.str a = V.str c) = false := fun h => decide_eq_false fun z => h (V.str.inj z)
  have ys : ∀ {a : Str}, decide (V.str a = V.str a) = true := fun {a} => decide_eq_true rfl
  refine ⟨_, rfl, _, rfl, _, rfl, l, _, rfl, .inl (SqL.of hl), ?_⟩
  refine ⟨b, ws.length, n, ?_, hB, by omega, by omega, by omega, fun u H1 u0 u1 B1 F1 => ?_⟩
  · rw [lm] <;> rfl
  obtain ⟨w, ew, wm⟩ : ∃ w : Str, atI (ws.map V.str) u = some (.str w) ∧ w ∈ sevD := by
    have c : u.toNat < ws.length := by omega
    refine ⟨ws[u.toNat], ?_, wall _ (List.getElem_mem c)⟩
    have := atI_nat (xs := ws.map V.str) (j := u.toNat) (v := .str ws[u.toNat]) (by rw [List.getElem?_map, List.getElem?_eq_getElem c] <;> rfl)
    rwa [show ((u.toNat : Nat) : Int) = u by omega] at this
  have o1 : Off K (· = b) H H1 := .box hB F1
  have lk : ∀ {X : Hp}, Off K (· = b) H X → LKAt K X Bd nms S := fun o => hk.off o (fun a r e => Rb a r e) rb
  refine ⟨l, _, u, _, rfl, rfl, SqL.of (o1.lst lb hl), ew, ?_⟩
  refine ⟨_, rfl, _, rfl, b, n + 1, Bd, nms, S, rfl, B1, by omega, lk o1, nn, fun x H2 xk B2 o2 => ?_⟩
  refine ⟨_, rfl, _, rfl, b, n + 3, Bd, nms, S, rfl, B2, by omega, lk (o1.seq o2), nn, fun y H3 yk B3 o3 => ?_⟩
  have o03 : Off K (· = b) H H3 := (o1.seq o2).seq o3
  refine ⟨_, _, _, rfl, ?_⟩
  have seq3 : ∀ {X : Hp}, Off K (· = b) H3 X → Off K (· = b) H X := fun o => o03.seq o
  simp only [sevD, List.mem_cons, List.not_mem_nil, or_false] at wm
  rcases wm with rfl | rfl | rfl | rfl | rfl | rfl | rfl
  · refine ⟨_, rfl, rfl, _, rfl, ?_⟩
    rw [ys]
    refine iteT ⟨_, rfl, ?_⟩
    refine ⟨_, rfl, b, 9, n + 5, rfl, B3, by omega, by decide, by decide, fun y9 H4 y90 y91 B4 F4 => ⟨_, rfl, b, 41, n + 6, rfl, B4, by omega, by decide, by decide, fun y41 H5 y410 y411 B5 F5 => ⟨rfl, fun L H6 s6 n6 h6 => ?_⟩⟩⟩
    refine ⟨_, rfl, b, 4, n + 7, rfl, B5.same s6, by omega, by decide, by decide, fun z H7 z0 z1 B7 F7 => ?_⟩
    have h7 := F7 _ _ (B5.new n6) h6
    have o7 : Off K (· = b) H3 H7 := (((Off.box B3 F4).seq (.box B4 F5)).seq (.same s6)).seq (.box (B5.same s6) F7)
    obtain ⟨t, et, t9⟩ : ∃ t : Nat, atI [V.int 0, V.int 1, V.int y9, V.int y41] z = some (.int (t : Int)) ∧ t ≤ 1000 := by
      rcases (by omega : z = 0 ∨ z = 1 ∨ z = 2 ∨ z = 3) with rfl | rfl | rfl | rfl
      · exact ⟨0, at0, by decide⟩
      · exact ⟨1, at1, by decide⟩
      · exact ⟨y9.toNat, by rw [show ((y9.toNat : Nat) : Int) = y9 by omega]; exact at2, by omega⟩
      · exact ⟨y41.toNat, by rw [show ((y41.toNat : Nat) : Int) = y41 by omega]; exact at3, by omega⟩
    refine ⟨L, _, z, _, rfl, rfl, SqL.of h7, et, rfl, fun d H8 s8 n8 h8 => ?_⟩
    exact q d (.boil t) H8 ((B7.same s8).mono (by omega)) (seq3 (o7.seq (.same s8))) (SqT.of h8) fun _ _ => t9
  · refine ⟨_, rfl, rfl, _, rfl, ?_⟩
    rw [ns (by decide +kernel)]
    refine iteF ⟨_, rfl, rfl, _, rfl, ?_⟩
    rw [ys]
    refine iteT ⟨_, rfl, _, rfl, _, rfl, ?_⟩
    have lk3 := lk o03
    obtain ⟨gv, ha3, _⟩ := lk3.a
    refine ⟨_, rfl, Bd.a, _, rfl, .inl ⟨_, kN "rows", .inl ha3, rfl, rfl⟩, Bd.r, rfl, .inl ⟨_, .inl lk3.r⟩, _, rfl, rfl, fun m0 H4 s4 n4 h4 => ⟨rfl, fun L H5 s5 n5 h5 => ?_⟩⟩
    have s45 := s4.trans s5
    have B5 := B3.same s45
    have Lb : L ≠ b := (B3.same s4).new n5
    have fin : ∀ {a : Addr} {s w u : Rat} {H6 : Hp}, BoxAt H6 b (n + 5 + 8) → Off K (· = b) H5 H6 → JuQ K H6 a s w → JuD u s w → (Dv (B60 * u.num.natAbs) w → Dv B60 w ∨ ∃ y ∈ nms, Dv (B60 * (S.st y).mark.num.natAbs) w) → ∀ d H7, Same H6 H7 → SqT K H7 d [.str "pour", .str x, .ref a] → Q (.ref d) H7 := fun {a s w u H6} B6 o6 hj jd wd d H7 s7 h7 =>
      q d (.pour x s w) H7 ((B6.same s7).mono (by omega)) (seq3 (((Off.same s45).seq o6).seq (.same s7))) ⟨a, h7, hj.same s7⟩ (fun S2 e => ⟨xk, jd.s0, jd.s9, jd.w0, jd.w9, pdv_of jd.sd (jd.wd.elim .inl fun z => (wd z).imp id fun ⟨y, hy, dv⟩ => ⟨y, hy, by rw [e y hy]; exact dv⟩)⟩)
    by_cases c : x ∈ nms
    · refine ⟨some _, dget_n (.inl (s45 _ _ lk3.r)) c, ?_⟩
      obtain ⟨mv, sv, wv, k1, ⟨mk, rfl, k2⟩, _, _⟩ := (lk3.same s45).row x c
      obtain ⟨M, L', N, nk, md, okk, gd⟩ := inv.get j9
      have kx := okk x c
      refine ⟨b, n + 5, Bd.c x, _, (S.st x).room, mk, (S.st x).mark, rfl, B5, by omega, Rb _ (.inr ⟨x, c, rfl⟩), k1, at0, at2, k2, kx.mo, kx.r0, kx.r9, fun a s w H6 B6 o6 hj jd => ⟨rfl, fun d H7 s7 n7 h7 => ?_⟩⟩
      exact fin B6 o6 hj jd (fun z => .inr ⟨x, c, z⟩) d H7 s7 (SqT.of h7)
    · refine ⟨none, dget_n0 (.inl (s45 _ _ lk3.r)) c, ?_⟩
      have e1 : (1 / 2 : Rat).num = 1 := by decide +kernel
      have q1 : FrQ K H5 m0 (1 / 2 : Rat) := by
        show SqT K H5 m0 [.int (1 / 2 : Rat).num, .int ((1 / 2 : Rat).den : Int)]
        rw [e1, show (((1 / 2 : Rat).den : Nat) : Int) = 2 by decide +kernel]
        exact SqT.of (s5 _ _ h4)
      refine ⟨b, n + 5, L, _, 60, m0, 1 / 2, rfl, B5, by omega, Lb, h5, at0, at2, q1, ⟨by decide +kernel, by decide +kernel, by decide +kernel⟩, by decide, by decide, fun a s w H6 B6 o6 hj jd => ⟨rfl, fun d H7 s7 n7 h7 => ?_⟩⟩
      exact fin B6 o6 hj jd (fun z => .inl (by rw [e1] at z; exact z)) d H7 s7 (SqT.of h7)
  · refine ⟨_, rfl, rfl, _, rfl, ?_⟩
    rw [ns (by decide +kernel)]
    refine iteF ⟨_, rfl, rfl, _, rfl, ?_⟩
    rw [ns (by decide +kernel)]
    refine iteF ⟨_, rfl, rfl, _, rfl, ?_⟩
    rw [ys]
    refine iteT ⟨_, rfl, _, rfl, _, rfl, ?_⟩
    refine ⟨b, n + 5, rfl, B3, by omega, fun a t H4 B4 o4 ha sa => ⟨rfl, fun d H5 s5 n5 h5 => ?_⟩⟩
    exact q d (.dip x t) H5 ((B4.same s5).mono (by omega)) (seq3 (o4.seq (.same s5))) ⟨a, SqT.of h5, ha.same s5⟩ fun _ _ => ⟨xk, sa⟩
  · refine ⟨_, rfl, rfl, _, rfl, ?_⟩
    rw [ns (by decide +kernel)]
    refine iteF ⟨_, rfl, rfl, _, rfl, ?_⟩
    rw [ns (by decide +kernel)]
    refine iteF ⟨_, rfl, rfl, _, rfl, ?_⟩
    rw [ns (by decide +kernel)]
    refine iteF ⟨_, rfl, rfl, _, rfl, ?_⟩
    rw [ys]
    refine iteT ⟨_, rfl, _, rfl, _, rfl, _, rfl, ?_⟩
    refine ⟨b, n + 5, rfl, B3, by omega, fun a t H4 B4 o4 ha sa => ⟨rfl, fun d H5 s5 n5 h5 => ?_⟩⟩
    exact q d (.ladle x y t) H5 ((B4.same s5).mono (by omega)) (seq3 (o4.seq (.same s5))) ⟨a, SqT.of h5, ha.same s5⟩ fun _ _ => ⟨xk, yk, sa⟩
  · refine ⟨_, rfl, rfl, _, rfl, ?_⟩
    rw [ns (by decide +kernel)]
    refine iteF ⟨_, rfl, rfl, _, rfl, ?_⟩
    rw [ns (by decide +kernel)]
    refine iteF ⟨_, rfl, rfl, _, rfl, ?_⟩
    rw [ns (by decide +kernel)]
    refine iteF ⟨_, rfl, rfl, _, rfl, ?_⟩
    rw [ns (by decide +kernel)]
    refine iteF ⟨_, rfl, rfl, _, rfl, ?_⟩
    rw [ys]
    refine iteT ?_
    refine ⟨_, rfl, b, 4, n + 5, rfl, B3, by omega, by decide, by decide, fun z H4 z0 z1 B4 F4 => ?_⟩
    refine ⟨rfl, _, rfl, ?_⟩
    have fin : ∀ {g : Rat} {ga : Addr} {HX : Hp} {m : Nat}, BoxAt HX b m → m ≤ n + 10 → Off K (· = b) H3 HX → FrQ K HX ga g → SAny g → ∀ a t H6, BoxAt H6 b (m + 4) → Off K (· = b) HX H6 → FrQ K H6 a t → SAny t → ∀ L H7, Same H6 H7 → H6 L = none → H7 L = some (.lst [.str y, .str x]) → ∀ z H8, BoxAt H8 b (m + 5) → Fr b H7 H8 → 0 ≤ z → z < 2 → ∃ v, atI [V.str y, V.str x] z = some (.str v) ∧ H8 L = some (.lst [.str y, .str x]) ∧ ∀ d H9, Same H8 H9 → SqT K H9 d [.str "skim", .str x, .ref a, .ref ga, .str v] → Q (.ref d) H9 := fun {g ga HX m} BX mn oX hg sg a t H6 B6 o6 ha st L H7 s7 n7 h7 z H8 B8 F8 z0 z1 => by
      obtain ⟨v, ev, kv⟩ : ∃ v, atI [V.str y, V.str x] z = some (.str v) ∧ KNm nms v := by
        rcases (by omega : z = 0 ∨ z = 1) with rfl | rfl
        · exact ⟨y, at0, yk⟩
        · exact ⟨x, at1, xk⟩
      have o8 : Off K (· = b) HX H8 := (o6.seq (.same s7)).seq (.box (B6.same s7) F8)
      refine ⟨v, ev, F8 _ _ (B6.new n7) h7, fun d H9 s9 h9 => ?_⟩
      exact q d (.skim x t g v) H9 ((B8.same s9).mono (by omega)) (seq3 ((oX.seq o8).seq (.same s9))) ⟨a, ga, h9, (ha.tk (((Off.same (K := K) (R := (· = b)) s7).seq (.box (B6.same s7) F8)).tk)).same s9, (hg.tk o8.tk).same s9⟩ fun _ _ => ⟨xk, kv, st, sg⟩
    have z0a : SAny ((0 : Int) : Rat) := ⟨by decide +kernel, by decide +kernel⟩
    by_cases c0 : V.int z = V.int 0
    · rw [decide_eq_true c0]
      refine iteT ⟨rfl, fun ga H5 s5 n5 h5 => ?_⟩
      have oX : Off K (· = b) H3 H5 := (Off.box B3 F4).seq (.same s5)
      refine ⟨_, rfl, _, rfl, _, rfl, b, n + 6, rfl, B4.same s5, by omega, fun a t H6 B6 o6 ha st => ?_⟩
      have f1 := fin (B4.same s5) (by omega) oX (FrQ.int (z := 0) h5) z0a a t H6 B6 o6 ha st
      refine ⟨_, rfl, _, rfl, _, rfl, rfl, fun L H7 s7 n7 h7 => ?_⟩
      refine ⟨_, rfl, b, 2, _, rfl, B6.same s7, by omega, by decide, by decide, fun z2 H8 z20 z21 B8 F8 => ?_⟩
      obtain ⟨v, ev, hL, g⟩ := f1 L H7 s7 n7 h7 z2 H8 B8 F8 z20 z21
      refine ⟨L, _, z2, _, rfl, rfl, SqL.of hL, ev, rfl, fun d H9 s9 n9 h9 => ?_⟩
      exact g d H9 s9 (SqT.of h9)
    · rw [decide_eq_false c0]
      refine iteF ⟨_, rfl, b, n + 6, rfl, B4, by omega, fun ga g H5 B5 o5 hg sg => ?_⟩
      have oX : Off K (· = b) H3 H5 := (Off.box B3 F4).seq o5
      refine ⟨_, rfl, _, rfl, _, rfl, b, n + 10, rfl, B5, by omega, fun a t H6 B6 o6 ha st => ?_⟩
      have f1 := fin B5 (by omega) oX hg sg a t H6 B6 o6 ha st
      refine ⟨_, rfl, _, rfl, _, rfl, rfl, fun L H7 s7 n7 h7 => ?_⟩
      refine ⟨_, rfl, b, 2, _, rfl, B6.same s7, by omega, by decide, by decide, fun z2 H8 z20 z21 B8 F8 => ?_⟩
      obtain ⟨v, ev, hL, g⟩ := f1 L H7 s7 n7 h7 z2 H8 B8 F8 z20 z21
      refine ⟨L, _, z2, _, rfl, rfl, SqL.of hL, ev, rfl, fun d H9 s9 n9 h9 => ?_⟩
      exact g d H9 s9 (SqT.of h9)
  · refine ⟨_, rfl, rfl, _, rfl, ?_⟩
    rw [ns (by decide +kernel)]
    refine iteF ⟨_, rfl, rfl, _, rfl, ?_⟩
    rw [ns (by decide +kernel)]
    refine iteF ⟨_, rfl, rfl, _, rfl, ?_⟩
    rw [ns (by decide +kernel)]
    refine iteF ⟨_, rfl, rfl, _, rfl, ?_⟩
    rw [ns (by decide +kernel)]
    refine iteF ⟨_, rfl, rfl, _, rfl, ?_⟩
    rw [ns (by decide +kernel)]
    refine iteF ⟨_, rfl, _, rfl, rfl, fun d H4 s4 n4 h4 => ?_⟩
    exact q d (.stop x) H4 ((B3.same s4).mono (by omega)) (seq3 (.same s4)) (SqT.of h4) fun _ _ => xk
  · refine ⟨_, rfl, rfl, _, rfl, ?_⟩
    rw [ns (by decide +kernel)]
    refine iteF ⟨_, rfl, rfl, _, rfl, ?_⟩
    rw [ns (by decide +kernel)]
    refine iteF ⟨_, rfl, rfl, _, rfl, ?_⟩
    rw [ns (by decide +kernel)]
    refine iteF ⟨_, rfl, rfl, _, rfl, ?_⟩
    rw [ns (by decide +kernel)]
    refine iteF ⟨_, rfl, rfl, _, rfl, ?_⟩
    rw [ns (by decide +kernel)]
    refine iteF ⟨_, rfl, _, rfl, rfl, fun d H4 s4 n4 h4 => ?_⟩
    exact q d (.start x) H4 ((B3.same s4).mono (by omega)) (seq3 (.same s4)) (SqT.of h4) fun _ _ => xk
  in #guard_msgs (pass all) in example : True := trivial

end
end KR
namespace KR
open PySem PySem.Spec PyProof.Rows L2
section
variable {P : Program} {w : World} {K : PySem.W.Frag} {mg : Str → Option Value} {base : Heap}
set_option Elab.async true in
theorem for_items {d : Addr} {od : Obj} {kvs : List (Key × V)} {g : TG} {tb : TS} {D : Ends} {σ : L2.St} {H : Hp} (Pv : Nat → L2.St → Hp → Prop) (h0 : Pv 0 σ H) (hl : ∀ i σ H, i ≤ kvs.length → Pv i σ H → H d = some (.frz od (.dK kvs)))
    (hs : ∀ i k v σ H T, kvs[i]? = some (k, v) → Pv i σ H → H T = none → g (.ref T) σ (upd H T (.tup [kV k, v])) fun σ2 H2 => tb { D with nx := Pv (i + 1), ct := Pv (i + 1), bk := D.nx } σ2 H2) (hd : ∀ σ H, Pv kvs.length σ H → D.nx σ H) :
    ∃ W : Nat → Nat → L2.St → Hp → Prop, (∃ m, W 0 m σ H) ∧ ∀ i m σ H, W i m σ H →
      ((Iti d od kvs).stop i H ∧ D.nx σ H) ∨ ((Iti d od kvs).go i H ∧ ∃ N : L2.St → Hp → Prop, (∀ σ' H', N σ' H' → ∃ m', m' < m ∧ W (i + 1) m' σ' H') ∧ ∀ x H', (Iti d od kvs).yld i H x H' → g x σ H' fun σ2 H2 => tb { D with nx := N, ct := N, bk := D.nx } σ2 H2) := by
  refine ⟨fun i m σ H => m = kvs.length - i ∧ i ≤ kvs.length ∧ Pv i σ H, ⟨kvs.length, by simp, Nat.zero_le _, h0⟩, ?_⟩
  rintro i m σ H ⟨rfl, hi, p⟩
  have q := hl i σ H hi p
  by_cases hlt : i < kvs.length
  · refine .inr ⟨⟨q, hlt⟩, Pv (i + 1), fun σ' H' p' => ⟨kvs.length - (i + 1), by omega, rfl, hlt, p'⟩, fun x H' y => ?_⟩
    obtain ⟨T, k, v, e, rfl, n, rfl⟩ := y
    exact hs i k v σ _ T e p n
  · have e : i = kvs.length := by omega
    subst e
    exact .inl ⟨⟨q, Nat.le_refl _⟩, hd σ H p⟩
  in #guard_msgs (pass all) in example : True := trivial
set_option Elab.async true in
theorem KettlesAt.neD {K : PySem.W.Frag} {CO CK : Addr} {H : Hp} {A : KAd} {nms : List Str} {S : KS} (h : KettlesAt K CO CK H A nms S) {a : Addr} (r : A.R nms a) {kvs : List (Key × V)} : H a ≠ some (.dK kvs) := fun z => by
  rcases r with rfl | ⟨x, hx, rfl⟩
  · obtain ⟨dx, bv, h1, h2⟩ := h.p
    rw [h1] at z
    cases z
  · obtain ⟨dx, mv, jv, h1, _⟩ := h.cell x hx
    rw [h1] at z
    cases z
  in #guard_msgs (pass all) in example : True := trivial

end
end KR
namespace KR
open PySem PySem.Spec PyProof.Rows L2
section
variable {P : Program} {w : World} {K : PySem.W.Frag} {mg : Str → Option Value} {base : Heap}
set_option Elab.async true in
/-- what stands first in a deed -/
theorem KDAt.fst {K : PySem.W.Frag} {H : Hp} {d : Addr} {D : KD} (h : KDAt K H d D) : ∃ (w : Str) (xs : List V), SqT K H d (.str w :: xs) := by
  cases D with
  | boil h' => exact ⟨_, _, h⟩
  | pour x s w => obtain ⟨j, h1, _⟩ := h; exact ⟨_, _, h1⟩
  | dip x q => obtain ⟨j, h1, _⟩ := h; exact ⟨_, _, h1⟩
  | ladle x y q => obtain ⟨j, h1, _⟩ := h; exact ⟨_, _, h1⟩
  | skim x q g y => obtain ⟨a, b, h1, _⟩ := h; exact ⟨_, _, h1⟩
  | stop x => exact ⟨_, _, h⟩
  | start x => exact ⟨_, _, h⟩
  in #guard_msgs (pass all) in example : True := trivial
end
end KR
namespace KR
open PySem PySem.Spec PyProof.Rows L2
section
variable {P : Program} {w : World} {K : PySem.W.Frag} {mg : Str → Option Value} {base : Heap}
def Ap {K : PySem.W.Frag} (t : Th K) (ts : List (Th K)) : Prop := ∀ (i : Nat) (u : Th K), ts[i]? = some u → ∀ a, t.R a → ¬ u.R a
theorem Ap.nil {K : PySem.W.Frag} {t : Th K} : Ap t [] := fun i u h => by simp at h
set_option Elab.async true in
theorem Ap.cons {K : PySem.W.Frag} {t s : Th K} {ts : List (Th K)} (h : ∀ a, t.R a → ¬ s.R a) (k : Ap t ts) : Ap t (s :: ts) := fun i u e => by
  cases i with
  | zero => cases e; exact h
  | succ i => exact k i u e
  in #guard_msgs (pass all) in example : True := trivial
set_option Elab.async true in
theorem Wd.put {K : PySem.W.Frag} {H0 H : Hp} {ts : List (Th K)} {t : Th K} (w : Wd K H0 H ts) (k : t.ok H) (ap : Ap t ts) (n : ∀ a, t.R a → Nw H0 a) : Wd K H0 H (t :: ts) := by
  refine ⟨fun j u h => ?_, fun j m u v h1 h2 ne a ra rb => ?_, fun j u h a ra => ?_, w.oH⟩
  · match j, h with
    | 0, h => cases h; exact k
    | j + 1, h => exact w.ok j u h
  · match j, m, h1, h2 with
    | 0, 0, _, _ => exact ne rfl
    | 0, m + 1, h1, h2 => cases h1; exact ap m v h2 a ra rb
    | j + 1, 0, h1, h2 => cases h2; exact ap j u h1 a rb ra
    | j + 1, m + 1, h1, h2 => exact w.dj j m u v h1 h2 (fun e => ne (by rw [e])) a ra rb
  · match j, h with
    | 0, h => cases h; exact n a ra
    | j + 1, h => exact w.nw j u h a ra
  in #guard_msgs (pass all) in example : True := trivial
set_option Elab.async true in
theorem put_mark {S : KS} {x : Str} {k : Ke} (h : k.mark = (S.st x).mark) (y : Str) : ((S.put x k).st y).mark = (S.st y).mark := by
  show (set1 S.st x k y).mark = _
  by_cases e : y = x
  · rw [e, set1_same]; exact h
  · rw [set1_ne e]
  in #guard_msgs (pass all) in example : True := trivial
theorem kb_mark (h : Nat) (k : Ke) : (kb h k).mark = k.mark := by
  unfold kb
  split <;> rfl
set_option Elab.async true in
/-- no deed changes a mark -/
theorem kstep_mark (nms : List Str) (D : KD) (S : KS) (y : Str) : ((kstep nms D S).1.st y).mark = (S.st y).mark := by
  cases D with
  | boil h => exact kb_mark h _
  | pour x s w => unfold kstep; dsimp only; repeat' split
                  all_goals first | rfl | exact put_mark (by rfl) y
  | dip x t => unfold kstep; dsimp only; repeat' split
               all_goals first | rfl | exact put_mark (by rfl) y
  | ladle x z t => unfold kstep; dsimp only; repeat' split
                   all_goals first | rfl | skip
                   all_goals
                     refine (put_mark ?_ y).trans (put_mark (by rfl) y)
                     exact (put_mark (S := S) (x := z) (k := (S.st z).inn ((S.st x).s * t) ((S.st x).w * t)) rfl x).symm
  | skim x t g z => unfold kstep; dsimp only; repeat' split
                    all_goals first | rfl | skip
                    all_goals
                      refine (put_mark ?_ y).trans (put_mark (by rfl) y)
                      refine Eq.trans ?_ (put_mark (S := S) (x := x) (k := (S.st x).out t) rfl z).symm
                      show (Ke.bef S x z t).mark = (S.st z).mark
                      unfold Ke.bef
                      split
                      · rename_i e; rw [← e]; rfl
                      · rfl
  | stop x => unfold kstep; dsimp only; repeat' split
              all_goals first | rfl | exact put_mark (by rfl) y
  | start x => unfold kstep; dsimp only; repeat' split
               all_goals first | rfl | exact put_mark (by rfl) y
  in #guard_msgs (pass all) in example : True := trivial
/-- three kettles and their books, the drawn numbers -/
def T28 (K : PySem.W.Frag) (CO CK : Addr) (nms : List Str) (b : Addr) (A1 A2 A3 : KAd) (B1 B2 B3 : LKA) (n : Nat) (S1 S2 S3 : KS) : List (Th K) :=
  [tLk K B3 nms S3, tKe K CO CK A3 nms S3, tLk K B2 nms S2, tKe K CO CK A2 nms S2, tLk K B1 nms S1, tKe K CO CK A1 nms S1, tBox K b n]
/-- the two that go on by the same rules -/
structure I28 (nms : List Str) (j : Nat) (S0 S1 S2 : KS) : Prop where
  i1 : KInv nms j S1
  i2 : KInv nms j S2
  m1 : ∀ y, (S1.st y).mark = (S0.st y).mark
  m2 : ∀ y, (S2.st y).mark = (S0.st y).mark

end
end KR
namespace KR
open PySem PySem.Spec PyProof.Rows L2
section
variable {P : Program} {w : World} {K : PySem.W.Frag} {mg : Str → Option Value} {base : Heap}
/-- what some names have together -/
def sumF (f : Str → Rat) : List Str → Rat
  | [] => 0
  | x :: l => f x + sumF f l
set_option Elab.async true in
theorem sumF_app (f : Str → Rat) : ∀ (l m : List Str), sumF f (l ++ m) = sumF f l + sumF f m
  | [], m => by show sumF f m = 0 + sumF f m; grind
  | x :: l, m => by
    show f x + sumF f (l ++ m) = f x + sumF f l + sumF f m
    rw [sumF_app f l m]
    grind
  in #guard_msgs (pass all) in example : True := trivial
set_option Elab.async true in
theorem sumF_take {f : Str → Rat} {l : List Str} {i : Nat} {x : Str} (e : l[i]? = some x) : sumF f (l.take (i + 1)) = sumF f (l.take i) + f x := by
  rw [take_one e, sumF_app]
  show _ + (f x + 0) = _
  grind
  in #guard_msgs (pass all) in example : True := trivial
set_option Elab.async true in
theorem sumF_eq {f g : Str → Rat} : ∀ {l : List Str}, (∀ x ∈ l, f x = g x) → sumF f l = sumF g l
  | [], _ => rfl
  | x :: l, h => by
    show f x + sumF f l = g x + sumF g l
    rw [h x List.mem_cons_self, sumF_eq fun y hy => h y (List.mem_cons_of_mem _ hy)]
  in #guard_msgs (pass all) in example : True := trivial
set_option Elab.async true in
/-- one of them changed -/
theorem sumF_put {f g : Str → Rat} {x : Str} : ∀ {l : List Str}, l.Nodup → x ∈ l → (∀ y ∈ l, y ≠ x → g y = f y) → sumF g l = sumF f l - f x + g x
  | [], _, h, _ => absurd h List.not_mem_nil
  | y :: l, nd, h, k => by
    have nd' := List.nodup_cons.mp nd
    show g y + sumF g l = f y + sumF f l - f x + g x
    by_cases e : y = x
    · have : sumF g l = sumF f l := sumF_eq fun z hz => k z (List.mem_cons_of_mem _ hz) fun c => nd'.1 (by rw [e, ← c]; exact hz)
      rw [this, e]
      grind
    · have hx : x ∈ l := (List.mem_cons.mp h).resolve_left fun c => e c.symm
      rw [sumF_put nd'.2 hx fun z hz => k z (List.mem_cons_of_mem _ hz), k y List.mem_cons_self e]
      grind
  in #guard_msgs (pass all) in example : True := trivial
set_option Elab.async true in
theorem sumF_in {N : Nat} {f : Str → Rat} : ∀ {l : List Str}, (∀ x ∈ l, Dv N (f x) ∧ 0 ≤ f x ∧ f x ≤ 1000000) → Dv N (sumF f l) ∧ 0 ≤ sumF f l ∧ sumF f l ≤ 1000000 * (((l.length : Nat) : Int) : Rat)
  | [], _ => ⟨.zero, Rat.le_refl, by
    have e : (((([] : List Str).length : Nat) : Int) : Rat) = 0 := rfl
    rw [e, Rat.mul_zero]
    exact Rat.le_refl⟩
  | x :: l, h => by
    obtain ⟨a1, a2, a3⟩ := h x List.mem_cons_self
    obtain ⟨b1, b2, b3⟩ := sumF_in (l := l) fun y hy => h y (List.mem_cons_of_mem _ hy)
    have e : ((((x :: l).length : Nat) : Int) : Rat) = (((l.length : Nat) : Int) : Rat) + 1 := by
      rw [List.length_cons, Int.natCast_add, Rat.intCast_add] <;> rfl
    refine ⟨a1.add b1, ?_, ?_⟩
    · show 0 ≤ f x + sumF f l
      grind
    · rw [e]
      show f x + sumF f l ≤ _
      grind
  in #guard_msgs (pass all) in example : True := trivial
def KS.sug (S : KS) (nms : List Str) : Rat := sumF (fun x => (S.st x).s) nms
def KS.wtr (S : KS) (nms : List Str) : Rat := sumF (fun x => (S.st x).w) nms
set_option Elab.async true in
theorem sug_put {S : KS} {nms : List Str} {x : Str} {k : Ke} (nd : nms.Nodup) (hx : x ∈ nms) : (S.put x k).sug nms = S.sug nms - (S.st x).s + k.s := by
  have h := sumF_put (f := fun y => (S.st y).s) (g := fun y => ((S.put x k).st y).s) nd hx fun y _ e => by
    show (set1 S.st x k y).s = _
    rw [set1_ne e]
  refine h.trans ?_
  show _ - (S.st x).s + (set1 S.st x k x).s = _
  rw [set1_same] <;> rfl
  in #guard_msgs (pass all) in example : True := trivial
set_option Elab.async true in
theorem wtr_put {S : KS} {nms : List Str} {x : Str} {k : Ke} (nd : nms.Nodup) (hx : x ∈ nms) : (S.put x k).wtr nms = S.wtr nms - (S.st x).w + k.w := by
  have h := sumF_put (f := fun y => (S.st y).w) (g := fun y => ((S.put x k).st y).w) nd hx fun y _ e => by
    show (set1 S.st x k y).w = _
    rw [set1_ne e]
  refine h.trans ?_
  show _ - (S.st x).w + (set1 S.st x k x).w = _
  rw [set1_same] <;> rfl
  in #guard_msgs (pass all) in example : True := trivial
set_option Elab.async true in
theorem goff_sum (h : Nat) (st : Str → Ke) : ∀ (l : List Str) (g : Rat), goff h st l g = g + sumF (fun x => (st x).w) l - sumF (fun x => (kb h (st x)).w) l
  | [], g => by show g = g + 0 - 0; grind
  | x :: l, g => by
    have e : goff h st (x :: l) g = goff h st l (g + ((st x).w - (kb h (st x)).w)) := rfl
    rw [e, goff_sum h st l]
    show _ = g + ((st x).w + sumF _ l) - ((kb h (st x)).w + sumF _ l)
    grind
  in #guard_msgs (pass all) in example : True := trivial
theorem kb_s (h : Nat) (k : Ke) : (kb h k).s = k.s := by
  unfold kb
  split <;> rfl
/-- what a deed that is told does to all that is there -/
inductive KTold (nms : List Str) (S S' : KS) : KD → PyData → Prop
  | pour {x : Str} {s w : Rat} {d : PyData} (hx : x ∈ nms) (nf : ¬ (S.st x).full s w) (es : S'.sug nms = S.sug nms + s) (ew : S'.wtr nms = S.wtr nms + w) (eg : S'.gone = S.gone) : KTold nms S S' (.pour x s w) d
  | dip {x : Str} {t a b : Rat} (ba : Big a) (bb : Big b) (es : S'.sug nms = S.sug nms - a) (ew : S'.wtr nms = S.wtr nms - b) (eg : S'.gone = S.gone) : KTold nms S S' (.dip x t) (dj a b)
  | skim {x y : Str} {t g a b : Rat} {p : PyData} (ba : Big a) (bb : Big b) (es : S'.sug nms = S.sug nms - a) (ew : S'.wtr nms = S.wtr nms - b) (eg : S'.gone = S.gone) : KTold nms S S' (.skim x t g y) (.tuple [p, dj a b])
  | boil {h : Nat} {d : PyData} (es : S'.sug nms = S.sug nms) (ew : S'.wtr nms + S'.gone = S.wtr nms + S.gone) (eg : S.gone ≤ S'.gone) : KTold nms S S' (.boil h) d
  | ladle {x y : Str} {t : Rat} {d : PyData} (es : S'.sug nms = S.sug nms) (ew : S'.wtr nms = S.wtr nms) (eg : S'.gone = S.gone) : KTold nms S S' (.ladle x y t) d
  | stop {x : Str} {d : PyData} (es : S'.sug nms = S.sug nms) (ew : S'.wtr nms = S.wtr nms) (eg : S'.gone = S.gone) : KTold nms S S' (.stop x) d
  | start {x : Str} {d : PyData} (es : S'.sug nms = S.sug nms) (ew : S'.wtr nms = S.wtr nms) (eg : S'.gone = S.gone) : KTold nms S S' (.start x) d
set_option Elab.async true in
theorem kstep_told {nms : List Str} {j : Nat} {S : KS} {D : KD} (nd : nms.Nodup) (inv : KInv nms j S) (j9 : j ≤ 400) (ok : KDOk nms S D) : ((kstep nms D S).1 = S ∧ ∃ w d, (kstep nms D S).2 = refu w d) ∨ ∃ d, (kstep nms D S).2 = toldD d ∧ KTold nms S (kstep nms D S).1 D d := by
  cases D with
  | boil h =>
    refine .inr ⟨_, rfl, .boil ?_ ?_ ?_⟩
    · exact sumF_eq fun x _ => kb_s h _
    · show sumF (fun x => (kb h (S.st x)).w) nms + goff h S.st nms S.gone = sumF (fun x => (S.st x).w) nms + S.gone
      rw [goff_sum]
      grind
    · have h9 : h ≤ 1000 := ok
      obtain ⟨M, L, N, n, md, okk, gd⟩ := inv.get j9
      have e : goff h S.st nms S.gone = S.gone + sumF (fun x => (S.st x).w - (kb h (S.st x)).w) nms := by
        rw [goff_sum]
        have : ∀ (l : List Str), sumF (fun x => (S.st x).w - (kb h (S.st x)).w) l = sumF (fun x => (S.st x).w) l - sumF (fun x => (kb h (S.st x)).w) l := fun l => by
          induction l with
          | nil => show (0 : Rat) = 0 - 0; grind
          | cons x l ih =>
            show _ + sumF _ l = (_ + sumF _ l) - (_ + sumF _ l)
            rw [ih]
            grind
        rw [this]
        grind
      show S.gone ≤ goff h S.st nms S.gone
      rw [e]
      have : ∀ (l : List Str), (∀ x ∈ l, x ∈ nms) → 0 ≤ sumF (fun x => (S.st x).w - (kb h (S.st x)).w) l := fun l => by
        induction l with
        | nil => intro _; exact Rat.le_refl
        | cons x l ih =>
          intro hl
          have i := ih fun y hy => hl y (List.mem_cons_of_mem _ hy)
          have kx := okk x (hl x List.mem_cons_self)
          have b : (kb h (S.st x)).w ≤ (S.st x).w := by
            unfold kb
            split
            · exact (kx.boil_in h9).2.2
            · exact Rat.le_refl
          show 0 ≤ ((S.st x).w - (kb h (S.st x)).w) + sumF _ l
          grind
      have := this nms fun _ => id
      grind
  | pour x s w =>
    by_cases c1 : x ∉ nms
    · unfold kstep; dsimp only; rw [if_pos c1]; exact .inl ⟨rfl, _, _, rfl⟩
    by_cases c2 : (S.st x).full s w
    · unfold kstep; dsimp only; rw [if_neg c1, if_pos c2]; exact .inl ⟨rfl, _, _, rfl⟩
    have hx := Classical.not_not.mp c1
    unfold kstep; dsimp only; rw [if_neg c1, if_neg c2]
    refine .inr ⟨_, rfl, .pour hx c2 ?_ ?_ rfl⟩
    · rw [sug_put nd hx]
      show _ - (S.st x).s + ((S.st x).s + s) = _
      grind
    · rw [wtr_put nd hx]
      show _ - (S.st x).w + ((S.st x).w + w) = _
      grind
  | dip x t =>
    by_cases c1 : x ∉ nms
    · unfold kstep; dsimp only; rw [if_pos c1]; exact .inl ⟨rfl, _, _, rfl⟩
    by_cases c2 : ¬ ShOk t
    · unfold kstep; dsimp only; rw [if_neg c1, if_pos c2]; exact .inl ⟨rfl, _, _, rfl⟩
    by_cases c3 : (S.st x).nil
    · unfold kstep; dsimp only; rw [if_neg c1, if_neg c2, if_pos c3]; exact .inl ⟨rfl, _, _, rfl⟩
    have hx := Classical.not_not.mp c1
    unfold kstep; dsimp only; rw [if_neg c1, if_neg c2, if_neg c3]
    obtain ⟨M, L, N, n, md, okk, gd⟩ := inv.get j9
    have pp := (okk x hx).part_in n ok.2
    refine .inr ⟨_, rfl, .dip (pp.1.big n (by decide +kernel)) (pp.2.big n (by decide +kernel)) ?_ ?_ rfl⟩
    · rw [sug_put nd hx]
      show _ - (S.st x).s + ((S.st x).s * (1 - t)) = _
      grind
    · rw [wtr_put nd hx]
      show _ - (S.st x).w + ((S.st x).w * (1 - t)) = _
      grind
  | ladle x y t =>
    by_cases c1 : x ∉ nms
    · unfold kstep; dsimp only; rw [if_pos c1]; exact .inl ⟨rfl, _, _, rfl⟩
    by_cases c2 : y ∉ nms
    · unfold kstep; dsimp only; rw [if_neg c1, if_pos c2]; exact .inl ⟨rfl, _, _, rfl⟩
    by_cases c3 : x = y
    · unfold kstep; dsimp only; rw [if_neg c1, if_neg c2, if_pos c3]; exact .inl ⟨rfl, _, _, rfl⟩
    by_cases c4 : ¬ ShOk t
    · unfold kstep; dsimp only; rw [if_neg c1, if_neg c2, if_neg c3, if_pos c4]; exact .inl ⟨rfl, _, _, rfl⟩
    by_cases c5 : (S.st x).nil
    · unfold kstep; dsimp only; rw [if_neg c1, if_neg c2, if_neg c3, if_neg c4, if_pos c5]; exact .inl ⟨rfl, _, _, rfl⟩
    by_cases c6 : (S.st y).full ((S.st x).s * t) ((S.st x).w * t)
    · unfold kstep; dsimp only; rw [if_neg c1, if_neg c2, if_neg c3, if_neg c4, if_neg c5, if_pos c6]; exact .inl ⟨rfl, _, _, rfl⟩
    have hx := Classical.not_not.mp c1
    have hy := Classical.not_not.mp c2
    unfold kstep; dsimp only; rw [if_neg c1, if_neg c2, if_neg c3, if_neg c4, if_neg c5, if_neg c6]
    have e : (S.put y ((S.st y).inn ((S.st x).s * t) ((S.st x).w * t))).st x = S.st x := set1_ne c3
    refine .inr ⟨_, rfl, .ladle ?_ ?_ rfl⟩
    · rw [sug_put nd hx, sug_put nd hy, e]
      show _ - (S.st y).s + ((S.st y).s + (S.st x).s * t) - (S.st x).s + ((S.st x).s * (1 - t)) = _
      grind
    · rw [wtr_put nd hx, wtr_put nd hy, e]
      show _ - (S.st y).w + ((S.st y).w + (S.st x).w * t) - (S.st x).w + ((S.st x).w * (1 - t)) = _
      grind
  | skim x t g y =>
    by_cases c1 : x ∉ nms
    · unfold kstep; dsimp only; rw [if_pos c1]; exact .inl ⟨rfl, _, _, rfl⟩
    by_cases c2 : y ∉ nms
    · unfold kstep; dsimp only; rw [if_neg c1, if_pos c2]; exact .inl ⟨rfl, _, _, rfl⟩
    by_cases c4 : ¬ ShOk t
    · unfold kstep; dsimp only; rw [if_neg c1, if_neg c2, if_pos c4]; exact .inl ⟨rfl, _, _, rfl⟩
    by_cases c3 : g ≠ 0 ∧ ¬ ShOk g
    · unfold kstep; dsimp only; rw [if_neg c1, if_neg c2, if_neg c4, if_pos c3]; exact .inl ⟨rfl, _, _, rfl⟩
    by_cases c5 : (S.st x).nil
    · unfold kstep; dsimp only; rw [if_neg c1, if_neg c2, if_neg c4, if_neg c3, if_pos c5]; exact .inl ⟨rfl, _, _, rfl⟩
    by_cases c6 : (Ke.bef S x y t).full ((S.st x).s * t * g) ((S.st x).w * t * g)
    · unfold kstep; dsimp only; rw [if_neg c1, if_neg c2, if_neg c4, if_neg c3, if_neg c5, if_pos c6]; exact .inl ⟨rfl, _, _, rfl⟩
    have hx := Classical.not_not.mp c1
    have hy := Classical.not_not.mp c2
    unfold kstep; dsimp only; rw [if_neg c1, if_neg c2, if_neg c4, if_neg c3, if_neg c5, if_neg c6]
    have e : (S.put x ((S.st x).out t)).st y = Ke.bef S x y t := by
      unfold Ke.bef
      by_cases c : x = y
      · rw [if_pos c, ← c]; exact set1_same
      · rw [if_neg c]; exact set1_ne fun z => c z.symm
    obtain ⟨M, L, N, n, md, okk, gd⟩ := inv.get j9
    have pp := (okk x hx).part_in n ok.2.2.1
    have pq := (okk x hx).part2_in n ok.2.2.1 ok.2.2.2
    have la : (S.st x).s * t * (1 - g) = (S.st x).s * t - (S.st x).s * t * g := by grind
    have lb : (S.st x).w * t * (1 - g) = (S.st x).w * t - (S.st x).w * t * g := by grind
    refine .inr ⟨_, rfl, .skim (by rw [la]; exact (pp.1.sub pq.1).big n (by decide +kernel)) (by rw [lb]; exact (pp.2.sub pq.2).big n (by decide +kernel)) ?_ ?_ rfl⟩
    · rw [sug_put nd hy, sug_put nd hx, e]
      show _ - (S.st x).s + ((S.st x).s * (1 - t)) - (Ke.bef S x y t).s + ((Ke.bef S x y t).s + (S.st x).s * t * g) = _ - (S.st x).s * t * (1 - g)
      grind
    · rw [wtr_put nd hy, wtr_put nd hx, e]
      show _ - (S.st x).w + ((S.st x).w * (1 - t)) - (Ke.bef S x y t).w + ((Ke.bef S x y t).w + (S.st x).w * t * g) = _ - (S.st x).w * t * (1 - g)
      grind
  | stop x =>
    by_cases c1 : x ∉ nms
    · unfold kstep; dsimp only; rw [if_pos c1]; exact .inl ⟨rfl, _, _, rfl⟩
    by_cases c2 : (S.st x).on = false
    · unfold kstep; dsimp only; rw [if_neg c1, if_pos c2]; exact .inl ⟨rfl, _, _, rfl⟩
    have hx := Classical.not_not.mp c1
    unfold kstep; dsimp only; rw [if_neg c1, if_neg c2]
    refine .inr ⟨_, rfl, .stop ?_ ?_ rfl⟩
    · rw [sug_put nd hx]
      show _ - (S.st x).s + (S.st x).s = _
      grind
    · rw [wtr_put nd hx]
      show _ - (S.st x).w + (S.st x).w = _
      grind
  | start x =>
    by_cases c1 : x ∉ nms
    · unfold kstep; dsimp only; rw [if_pos c1]; exact .inl ⟨rfl, _, _, rfl⟩
    by_cases c2 : (S.st x).on = true
    · unfold kstep; dsimp only; rw [if_neg c1, if_pos c2]; exact .inl ⟨rfl, _, _, rfl⟩
    have hx := Classical.not_not.mp c1
    unfold kstep; dsimp only; rw [if_neg c1, if_neg c2]
    refine .inr ⟨_, rfl, .start ?_ ?_ rfl⟩
    · rw [sug_put nd hx]
      show _ - (S.st x).s + (S.st x).s = _
      grind
    · rw [wtr_put nd hx]
      show _ - (S.st x).w + (S.st x).w = _
      grind
  in #guard_msgs (pass all) in example : True := trivial
set_option Elab.async true in
theorem put_room {S : KS} {x : Str} {k : Ke} (h : k.room = (S.st x).room) (y : Str) : ((S.put x k).st y).room = (S.st y).room := by
  show (set1 S.st x k y).room = _
  by_cases e : y = x
  · rw [e, set1_same]; exact h
  · rw [set1_ne e]
  in #guard_msgs (pass all) in example : True := trivial
set_option Elab.async true in
/-- no deed changes a room -/
theorem kstep_room (nms : List Str) (D : KD) (S : KS) (y : Str) : ((kstep nms D S).1.st y).room = (S.st y).room := by
  cases D with
  | boil h =>
    show (kb h (S.st y)).room = _
    unfold kb
    split <;> rfl
  | pour x s w => unfold kstep; dsimp only; repeat' split
                  all_goals first | rfl | exact put_room (by rfl) y
  | dip x t => unfold kstep; dsimp only; repeat' split
               all_goals first | rfl | exact put_room (by rfl) y
  | ladle x z t => unfold kstep; dsimp only; repeat' split
                   all_goals first | rfl | skip
                   all_goals
                     refine (put_room ?_ y).trans (put_room (by rfl) y)
                     exact (put_room (S := S) (x := z) (k := (S.st z).inn ((S.st x).s * t) ((S.st x).w * t)) rfl x).symm
  | skim x t g z => unfold kstep; dsimp only; repeat' split
                    all_goals first | rfl | skip
                    all_goals
                      refine (put_room ?_ y).trans (put_room (by rfl) y)
                      refine Eq.trans ?_ (put_room (S := S) (x := x) (k := (S.st x).out t) rfl z).symm
                      show (Ke.bef S x z t).room = (S.st z).room
                      unfold Ke.bef
                      split
                      · rename_i e; rw [← e]; rfl
                      · rfl
  | stop x => unfold kstep; dsimp only; repeat' split
              all_goals first | rfl | exact put_room (by rfl) y
  | start x => unfold kstep; dsimp only; repeat' split
               all_goals first | rfl | exact put_room (by rfl) y
  in #guard_msgs (pass all) in example : True := trivial
/-- two fractions in a list -/
def L2Q (K : PySem.W.Frag) (H : Hp) (a : Addr) (p q : Rat) : Prop := ∃ x y, H a = some (.lst [.ref x, .ref y]) ∧ FrQ K H x p ∧ FrQ K H y q
set_option Elab.async true in
theorem L2Q.off {K : PySem.W.Frag} {H H' : Hp} {a : Addr} {p q : Rat} {R : Addr → Prop} (h : L2Q K H a p q) (o : Off K R H H') (n : ¬ R a) : L2Q K H' a p q := by
  obtain ⟨x, y, h1, h2, h3⟩ := h
  exact ⟨x, y, o.lst n h1, h2.tk o.tk, h3.tk o.tk⟩
  in #guard_msgs (pass all) in example : True := trivial
def tL2 (K : PySem.W.Frag) (a : Addr) (p q : Rat) : Th K := ⟨(· = a), fun H => L2Q K H a p q, fun h o r => h.off o (r _ rfl), fun h r => by
  obtain ⟨x, y, h1, _⟩ := h
  rw [r]
  exact ⟨_, h1, fun _ z => by cases z⟩⟩
/-- all that has come, bounded -/
structure J27 (nms : List Str) (j : Nat) (S0 S : KS) (cs cw : Rat) : Prop where
  inv : KInv nms j S
  mr : ∀ y, (S.st y).mark = (S0.st y).mark
  rm : ∀ y, (S.st y).room = (S0.st y).room
  s0 : 0 ≤ cs
  s9 : cs ≤ ((1000000 * j : Nat) : Int)
  sd : Dv B60 cs
  w0 : 0 ≤ cw
  w9 : cw ≤ ((1000000 * j : Nat) : Int)
  wd : ∀ L : Nat, (∀ y ∈ nms, (S0.st y).mark.num.natAbs ∣ L) → Dv (B60 * L) cw
structure B27 (cs cw os ow ss sw g : Rat) : Prop where
  b1 : Big cs
  b2 : Big cw
  b3 : Big os
  b4 : Big ow
  b5 : Big (sw + ow)
  b6 : Big ss
  b7 : Big sw
  b8 : Big g
set_option Elab.async true in
theorem J27.big {nms : List Str} {j : Nat} {S0 S : KS} {cs cw : Rat} (h : J27 nms j S0 S cs cw) (j9 : j ≤ 400) : B27 cs cw (cs - S.sug nms) (cw - S.wtr nms - S.gone) (S.sug nms) (S.wtr nms) S.gone := by
  obtain ⟨M, L, N, n, md, okk, gd⟩ := h.inv.get j9
  have c9 : (((1000000 * j : Nat) : Int) : Rat) ≤ 400000000 := by
    have b : (((1000000 * j : Nat) : Int) : Rat) ≤ ((400000000 : Int) : Rat) := Rat.intCast_le_intCast.mpr (by omega)
    have c : ((400000000 : Int) : Rat) = 400000000 := by decide +kernel
    rwa [c] at b
  have g9 : S.gone ≤ 3200000000 := by
    have a := h.inv.g9
    have b : (((8000000 * j : Nat) : Int) : Rat) ≤ ((3200000000 : Int) : Rat) := Rat.intCast_le_intCast.mpr (by omega)
    have c : ((3200000000 : Int) : Rat) = 3200000000 := by decide +kernel
    rw [c] at b
    exact Rat.le_trans a b
  have l9 : ((((nms).length : Nat) : Int) : Rat) ≤ 8 := by
    have b : (((nms.length : Nat) : Int) : Rat) ≤ ((8 : Int) : Rat) := Rat.intCast_le_intCast.mpr (by have := h.inv.n8; omega)
    have c : ((8 : Int) : Rat) = 8 := by decide +kernel
    rwa [c] at b
  obtain ⟨a1, a2, a3⟩ := sumF_in (N := N) (f := fun x => (S.st x).s) (l := nms) fun x hx => ⟨(okk x hx).sd.up n.dm, (okk x hx).s0, (okk x hx).s9.1⟩
  obtain ⟨b1, b2, b3⟩ := sumF_in (N := N) (f := fun x => (S.st x).w) (l := nms) fun x hx => ⟨(okk x hx).wd.up n.dml, (okk x hx).w0, (okk x hx).s9.2⟩
  have iS : In N 4000000000 (S.sug nms) := ⟨a1, by show _ ≤ sumF _ nms; grind, by show sumF _ nms ≤ _; grind⟩
  have iW : In N 4000000000 (S.wtr nms) := ⟨b1, by show _ ≤ sumF _ nms; grind, by show sumF _ nms ≤ _; grind⟩
  have iG : In N 4000000000 S.gone := ⟨gd.up n.dml, by have := h.inv.g0; grind, by grind⟩
  have iC : In N 4000000000 cs := ⟨h.sd.up (Nat.dvd_trans md n.dm), by have := h.s0; grind, by have := h.s9; grind⟩
  have iD : In N 4000000000 cw := ⟨(h.wd L fun y hy => by rw [← h.mr y]; exact (okk y hy).ml).up (Nat.dvd_trans (Nat.mul_dvd_mul_right md L) n.dml), by have := h.w0; grind, by have := h.w9; grind⟩
  exact ⟨iC.big n (by decide +kernel), iD.big n (by decide +kernel), (iC.sub iS).big n (by decide +kernel), ((iD.sub iW).sub iG).big n (by decide +kernel), (iW.add ((iD.sub iW).sub iG)).big n (by decide +kernel), iS.big n (by decide +kernel), iW.big n (by decide +kernel), iG.big n (by decide +kernel)⟩
  in #guard_msgs (pass all) in example : True := trivial
set_option Elab.async true in
/-- what is poured in has these bottoms -/
theorem pour_dv {nms : List Str} {j : Nat} {S : KS} {x : Str} {s w : Rat} (inv : KInv nms j S) (j9 : j ≤ 400) (hx : x ∈ nms) (nf : ¬ (S.st x).full s w) (ok : ∀ S2 : KS, (∀ y ∈ nms, (S2.st y).mark = (S.st y).mark) → KDOk nms S2 (.pour x s w)) : (0 ≤ s ∧ s ≤ 1000000 ∧ 0 ≤ w ∧ w ≤ 1000000) ∧ Dv B60 s ∧ ∀ L : Nat, (∀ y ∈ nms, (S.st y).mark.num.natAbs ∣ L) → Dv (B60 * L) w := by
  obtain ⟨M, L0, N, n, md, okk, gd⟩ := inv.get j9
  have kx := okk x hx
  obtain ⟨_, s0, s9, w0, w9, pd⟩ := ok ⟨fun y => ⟨1000000, 0, (S.st y).mark, 0, 0, true⟩, 0, 0⟩ fun y _ => rfl
  have nf2 : ¬ (⟨1000000, 0, (S.st x).mark, 0, 0, true⟩ : Ke).full s w := fun z => nf (by
    have z : ((1000000 : Int) : Rat) < 0 + s + (0 + w) := z
    have r9 : ((S.st x).room : Rat) ≤ ((1000000 : Int) : Rat) := Rat.intCast_le_intCast.mpr kx.r9
    have := kx.s0
    have := kx.w0
    show ((S.st x).room : Rat) < (S.st x).s + s + ((S.st x).w + w)
    grind)
  have all : ∀ L : Nat, (∀ y ∈ nms, (S.st y).mark.num.natAbs ∣ L) → Dv B60 s ∧ Dv (B60 * L) w := fun L hL => (pd B60 L (Nat.dvd_refl _) fun y hy => ⟨by show (1 : Int) ≤ 1000000; decide, Int.le_refl _, Int.le_refl _, by show (0 : Int) ≤ 10000; decide, (okk y hy).mo, hL y hy, Rat.le_refl, Rat.le_refl, by
    show (0 : Rat) + 0 ≤ ((1000000 : Int) : Rat)
    rw [mil]
    decide +kernel, .zero, .zero⟩).2 hx nf2
  refine ⟨⟨s0, s9, w0, w9⟩, (all L0 fun y hy => (okk y hy).ml).1, fun L hL => (all L hL).2⟩
  in #guard_msgs (pass all) in example : True := trivial
set_option Elab.async true in
theorem mil_succ (j : Nat) : (((1000000 * (j + 1) : Nat) : Int) : Rat) = (((1000000 * j : Nat) : Int) : Rat) + 1000000 := by
  have : ((1000000 : Int) : Rat) = 1000000 := by decide +kernel
  rw [← this, ← Rat.intCast_add]
  congr 1
  in #guard_msgs (pass all) in example : True := trivial
set_option Elab.async true in
/-- a deed more, nothing poured in -/
theorem J27.on {nms : List Str} {j : Nat} {S0 S : KS} {cs cw : Rat} {D : KD} (h : J27 nms j S0 S cs cw) (j9 : j ≤ 400) (ok : KDOk nms S D) : J27 nms (j + 1) S0 (kstep nms D S).1 cs cw :=
  ⟨kstep_inv h.inv j9 ok, fun y => (kstep_mark nms D S y).trans (h.mr y), fun y => (kstep_room nms D S y).trans (h.rm y), h.s0, by rw [mil_succ]; have := h.s9; grind, h.sd, h.w0, by rw [mil_succ]; have := h.w9; grind, h.wd⟩
  in #guard_msgs (pass all) in example : True := trivial
set_option Elab.async true in
/-- a deed more by which something comes -/
theorem J27.in_ {nms : List Str} {j : Nat} {S0 S : KS} {cs cw s w : Rat} {D : KD} (h : J27 nms j S0 S cs cw) (j9 : j ≤ 400) (ok : KDOk nms S D) (b : 0 ≤ s ∧ s ≤ 1000000 ∧ 0 ≤ w ∧ w ≤ 1000000) (sd : Dv B60 s) (wd : ∀ L : Nat, (∀ y ∈ nms, (S0.st y).mark.num.natAbs ∣ L) → Dv (B60 * L) w) : J27 nms (j + 1) S0 (kstep nms D S).1 (cs + s) (cw + w) :=
  ⟨kstep_inv h.inv j9 ok, fun y => (kstep_mark nms D S y).trans (h.mr y), fun y => (kstep_room nms D S y).trans (h.rm y), by have := h.s0; grind, by rw [mil_succ]; have := h.s9; grind, h.sd.add sd, by have := h.w0; grind, by rw [mil_succ]; have := h.w9; grind, fun L hL => (h.wd L hL).add (wd L hL)⟩
  in #guard_msgs (pass all) in example : True := trivial
set_option Elab.async true in
/-- two words looked at -/
theorem if_two {K : PySem.W.Frag} {σ : L2.St} {H : Hp} {D : Ends} {i j : Nat} {a d : Addr} {r w r0 w0 : Str} {ys xs : List V} {S1 S2 : TS} (hi : σ[i]? = some (some (.ref a))) (ha : SqT K H a (.str r :: ys)) (hj : σ[j]? = some (some (.ref d))) (hd : SqT K H d (.str w :: xs)) (yes : r = r0 → w = w0 → S1 D σ H) (no : ¬ (r = r0 ∧ w = w0) → S2 D σ H) :
    tIfS (tAnd (tTest (tOp rEq (tOp (rIxT K) (tVar i) (tC (.int 0))) (tC (.str r0)))) (tTest (tOp rEq (tOp (rIxT K) (tVar j) (tC (.int 0))) (tC (.str w0))))) S1 S2 D σ H := by
  refine ⟨_, hi, a, _, 0, _, rfl, rfl, ha, at0, rfl, _, rfl, ?_⟩
  by_cases c : V.str r = V.str r0
  · rw [decide_eq_true c]
    refine iteT ⟨_, hj, d, _, 0, _, rfl, rfl, hd, at0, rfl, _, rfl, ?_⟩
    by_cases c2 : V.str w = V.str w0
    · rw [decide_eq_true c2]
      exact iteT (yes (V.str.inj c) (V.str.inj c2))
    · rw [decide_eq_false c2]
      exact iteF (no fun z => c2 (by rw [z.2]))
  · rw [decide_eq_false c]
    exact iteF (iteF (no fun z => c (by rw [z.1])))
  in #guard_msgs (pass all) in example : True := trivial
set_option Elab.async true in
theorem Dtu.ju {K : PySem.W.Frag} {H : Hp} {n : Nat} {v : V} {s w : Rat} (h : Dtu K H (n + 2) v (dj s w)) : ∃ a, v = .ref a ∧ JuQ K H a s w := by
  obtain ⟨a, rfl⟩ := h.ref
  obtain ⟨xs, h1, h2⟩ := h.tupI
  obtain ⟨v1, v2, rfl, d1, d2⟩ := h2.two
  obtain ⟨x, rfl, f1⟩ := d1.fq
  obtain ⟨y, rfl, f2⟩ := d2.fq
  exact ⟨a, rfl, x, y, h1, f1, f2⟩
  in #guard_msgs (pass all) in example : True := trivial
set_option Elab.async true in
theorem Dtu.strI {K : PySem.W.Frag} {H : Hp} {n : Nat} {v : V} {x : Str} (h : Dtu K H n v (.str x)) : v = .str x := by
  cases h
  rfl
  in #guard_msgs (pass all) in example : True := trivial
def T27 (K : PySem.W.Frag) (CO CK : Addr) (nms : List Str) (b : Addr) (A : KAd) (B : LKA) (c o : Addr) (n : Nat) (S0 S : KS) (cs cw os ow : Rat) : List (Th K) :=
  [tL2 K o os ow, tL2 K c cs cw, tLk K B nms S0, tKe K CO CK A nms S, tBox K b n]

end
end KR
namespace KR
open PySem PySem.Spec PyProof.Rows L2
section
variable {P : Program} {w : World} {K : PySem.W.Frag} {mg : Str → Option Value} {base : Heap}
def sp_more (K : PySem.W.Frag) : Sp := fun vs H Q _ => ∃ (a j : Addr) (p q s w : Rat), vs = [.ref a, .ref j] ∧ L2Q K H a p q ∧ JuQ K H j s w ∧ Big p ∧ Big q ∧ Big s ∧ Big w ∧ ∀ c H', Same H H' → H c = none → L2Q K H' c (p + s) (q + w) → Q (.ref c) H'
set_option Elab.async true in
theorem ok_l_more (T : All K mg) : FnOk P w K mg base CX0 3 T.f_l_more T.fd_l_more ["_law_whole", "_law_juice_here"] (sp_more K) := by
  refine T.d_l_more.fn.ok sc_l_more (fun vs H Q E h => ?_) (fun cdv A outer s H vs Q E hr h => ?_)
  · obtain ⟨a, j, p, q, s, w, rfl, _⟩ := h
    rfl
  obtain ⟨a, j, p, q, sg, wt, rfl, hl, hj, b1, b2, b3, b4, k⟩ := h
  refine ⟨_, (pss_one (ps_ret (pe_lstI (pa_cons (pe_call (ok_l_plus T) hr (by rfl) T.d_l_plus.mg T.d_l_plus.fn.kp T.d_l_plus.b .nil pass0 (pa_cons (pe_ix (ixL (K := K) rfl) (pv 0) pe_int (fun _ _ => rfl)) (pa_cons (pe_ix (ixT (K := K) rfl) (pv 1) pe_int (fun _ _ => rfl)) pa_nil))) (pa_cons (pe_call (ok_l_plus T) hr (by rfl) T.d_l_plus.mg T.d_l_plus.fn.kp T.d_l_plus.b .nil pass0 (pa_cons (pe_ix (ixL (K := K) rfl) (pv 0) pe_int (fun _ _ => rfl)) (pa_cons (pe_ix (ixT (K := K) rfl) (pv 1) pe_int (fun _ _ => rfl)) pa_nil))) pa_nil))))), ?_⟩
  obtain ⟨x, y, h1, h2, h3⟩ := hl
  obtain ⟨u, v, j1, j2, j3⟩ := hj
  refine ⟨_, rfl, a, _, 0, _, rfl, rfl, SqL.of h1, at0, _, rfl, j, _, 0, _, rfl, rfl, j1, at0, x, u, p, sg, rfl, h2, j2, b1, b3, trivial, fun z1 H1 s1 n1 f1 => ?_⟩
  refine ⟨_, rfl, a, _, 1, _, rfl, rfl, SqL.of (s1 _ _ h1), at1, _, rfl, j, _, 1, _, rfl, rfl, Same.tup s1 j1, at1, y, v, q, wt, rfl, h3.same s1, j3.same s1, b2, b4, trivial, fun z2 H2 s2 n2 f2 => ?_⟩
  refine ⟨rfl, fun c H3 s3 n3 h3 => ?_⟩
  exact k c H3 (s1.trans (s2.trans s3)) (same_none (s1.trans s2) n3) ⟨z1, z2, h3, f1.same (s2.trans s3), f2.same s3⟩
  in #guard_msgs (pass all) in example : True := trivial

end
end KR
namespace KR
open PySem PySem.Spec PyProof.Rows L2
section
variable {P : Program} {w : World} {K : PySem.W.Frag} {mg : Str → Option Value} {base : Heap}
def sp_sumright (T : All K mg) : Sp := fun vs H Q _ => ∃ (A : KAd) (B : LKA) (nms : List Str) (S S0 : KS) (j : Nat) (c o : Addr) (cs cw : Rat), vs = [.ref A.p, .ref B.a, .ref c, .ref o] ∧ KettlesAt K T.C_Kettles T.C_Kettle H A nms S ∧ LKAt K H B nms S0 ∧ J27 nms j S0 S cs cw ∧ j ≤ 400 ∧ A.t ≠ B.r ∧ c ≠ B.r ∧ o ≠ B.r ∧ L2Q K H c cs cw ∧ L2Q K H o (cs - S.sug nms) (cw - S.wtr nms - S.gone) ∧ ∀ H', Same H H' → Q (.bl true) H'
set_option Elab.async true in
theorem ok_l_sum_right (T : All K mg) : FnOk P w K mg base CX0 6 T.f_l_sum_right T.fd_l_sum_right ["_law_kettles", "_law_state", "_law_came", "_law_out"] (sp_sumright T) := by
  refine T.d_l_sum_right.fn.ok sc_l_sum_right (fun vs H Q E h => ?_) (fun cdv A outer s H vs Q E hr h => ?_)
  · obtain ⟨A, B, nms, S, S0, j, c, o, cs, cw, rfl, _⟩ := h
    rfl
  obtain ⟨Ad, Bd, nms, S, S0, j, c, o, cs, cw, rfl, hk, hl, J, j9, ntr, ncr, nor, hc, ho, q⟩ := h
  refine ⟨_, (pss_cons (ps_par (i := 4) (j := 5) (by rfl) sc_l_sum_right.nd rfl rfl (by decide) rfl rfl (pa_cons (pe_lstI (pa_cons (pe_tupI (pa_cons pe_int (pa_cons pe_int pa_nil))) (pa_cons (pe_tupI (pa_cons pe_int (pa_cons pe_int pa_nil))) pa_nil))) (pa_cons (pe_meth0 (pv 0) T.L_Kettles T.m_Kettles_boiled_off (ok_Kettles_boiled_off T) (hr.mono (by decide)) T.b_Kettles_boiled_off .nil pass0) pa_nil)) (by rfl))
      (pss_cons (ps_lock (ps_for PassesOwn.never rfl (pi_items (pe_dget (hu_of hr) (pv 1) pe_str (fun _ _ => rfl))) (pg_tupK (K := K) rfl rfl (pgs_cons (pg_name (i := 6) sc_l_sum_right.nd rfl (by first | exact Or.inl rfl | exact Or.inr rfl)) (pgs_cons (pg_name (i := 7) sc_l_sum_right.nd rfl (by first | exact Or.inl rfl | exact Or.inr rfl)) pgs_nil))) (pss_cons (ps_set (i := 8) sc_l_sum_right.nd rfl (by first | exact Or.inl rfl | exact Or.inr rfl) (pe_meth (pv 0) T.L_Kettles T.m_Kettles_juice_of (ok_Kettles_juice_of T) (hr.mono (by decide)) T.b_Kettles_juice_of .nil passX0 (pa_cons (pv 6) pa_nil)))
      (pss_cons (ps_if (PW.pt (pw_or (pt_cmpR op_lt (pe_ix (ixT (K := K) rfl) (pe_ix (ixT (K := K) rfl) (pv 8) pe_int (fun _ _ => rfl)) pe_int (fun _ _ => rfl)) pe_int (nomark _)) (pw_or (pt_cmpR op_lt (pe_ix (ixT (K := K) rfl) (pe_ix (ixT (K := K) rfl) (pv 8) pe_int (fun _ _ => rfl)) pe_int (fun _ _ => rfl)) pe_int (nomark _)) (pw_or1 (pt_val (pe_call (ok_l_less T) (hr.mono (by decide)) (by rfl) T.d_l_less.mg T.d_l_less.fn.kp T.d_l_less.b .nil pass0 (pa_cons (pe_tupI (pa_cons (pe_ix (ixL (K := K) rfl) (pv 7) pe_int (fun _ _ => rfl)) (pa_cons pe_int pa_nil))) (pa_cons (pe_call (ok_l_plus T) (hr.mono (by decide)) (by rfl) T.d_l_plus.mg T.d_l_plus.fn.kp T.d_l_plus.b .nil pass0 (pa_cons (pe_ix (ixT (K := K) rfl) (pv 8) pe_int (fun _ _ => rfl)) (pa_cons (pe_ix (ixT (K := K) rfl) (pv 8) pe_int (fun _ _ => rfl)) pa_nil))) pa_nil)))))))) (pss_one (ps_ret pe_bl)) pss_nil)
      (pss_one (ps_set (i := 4) sc_l_sum_right.nd rfl (by first | exact Or.inl rfl | exact Or.inr rfl) (pe_call (ok_l_more T) (hr.mono (by decide)) (by rfl) T.d_l_more.mg T.d_l_more.fn.kp T.d_l_more.b .nil pass0 (pa_cons (pv 4) (pa_cons (pv 8) pa_nil)))))))))
      (pss_one (ps_ret (pe_cmpR (eqDK (K := K) rfl hr.units) (pv 2) (pe_lstI (pa_cons (pe_call (ok_l_plus T) (hr.mono (by decide)) (by rfl) T.d_l_plus.mg T.d_l_plus.fn.kp T.d_l_plus.b .nil pass0 (pa_cons (pe_ix (ixL (K := K) rfl) (pv 4) pe_int (fun _ _ => rfl)) (pa_cons (pe_ix (ixL (K := K) rfl) (pv 3) pe_int (fun _ _ => rfl)) pa_nil))) (pa_cons (pe_call (ok_l_plus T) (hr.mono (by decide)) (by rfl) T.d_l_plus.mg T.d_l_plus.fn.kp T.d_l_plus.b .nil pass0 (pa_cons (pe_call (ok_l_plus T) (hr.mono (by decide)) (by rfl) T.d_l_plus.mg T.d_l_plus.fn.kp T.d_l_plus.b .nil pass0 (pa_cons (pe_ix (ixL (K := K) rfl) (pv 4) pe_int (fun _ _ => rfl)) (pa_cons (pe_ix (ixL (K := K) rfl) (pv 3) pe_int (fun _ _ => rfl)) pa_nil))) (pa_cons (pv 5) pa_nil))) pa_nil))) (nomark _)))))), ?_⟩
  have bg := J.big j9
  obtain ⟨M, L, N, n, md, okk, gd⟩ := J.inv.get j9
  obtain ⟨dx, bv, hp, _⟩ := hk.p
  obtain ⟨gv, ha, hg⟩ := hl.a
  refine ⟨rfl, fun z1 H1 s1 n1 h1 => ⟨rfl, fun z2 H2 s2 n2 h2 => ⟨rfl, fun th H3 s3 n3 h3 => ?_⟩⟩⟩
  have s03 := s1.trans (s2.trans s3)
  refine ⟨_, rfl, Ad.p, dx, _, rfl, s03 _ _ hp, rfl, Ad, nms, S, rfl, hk.same s03, fun ga hga => ⟨_, _, rfl, ?_⟩⟩
  have hk3 := hk.same s03
  have hl3 := hl.same s03
  have hr3 := hl3.r
  have ha3 := s03 _ _ ha
  have hth : L2Q K H3 th 0 0 := ⟨z1, z2, h3, (FrQ.int (z := 0) h1).same (s2.trans s3), (FrQ.int (z := 0) h2).same s3⟩
  refine ⟨Bd.r, _, hr3, trivial, fun od => ?_⟩
  have oL : Off K (· = Bd.r) H3 (upd H3 Bd.r (.frz od (.dK (byK kN nms fun x => .ref (Bd.c x))))) := .put hr3 .dK rfl
  have gL : (upd H3 Bd.r (.frz od (.dK (byK kN nms fun x => .ref (Bd.c x))))) Bd.r = some (.frz od (.dK (byK kN nms fun x => .ref (Bd.c x)))) := upd_same
  have lk : ∀ {X : Hp}, Same (upd H3 Bd.r (.frz od (.dK (byK kN nms fun x => .ref (Bd.c x))))) X → Same H3 (upd X Bd.r (.dK (byK kN nms fun x => .ref (Bd.c x)))) := fun z => lock_same hr3 z
  generalize upd H3 Bd.r (HO.frz od _) = Lk at oL gL lk ⊢
  have hkL : KettlesAt K T.C_Kettles T.C_Kettle Lk Ad nms S := hk3.off oL (fun a r e => hk3.neD (kvs := byK kN nms fun x => .ref (Bd.c x)) r (by rw [show a = Bd.r from e]; exact hr3)) ntr
  have rowL : ∀ x ∈ nms, LRow K Lk (Bd.c x) (S0.st x) := fun x hx => (hl3.row x hx).off oL (hl3.rc hx).symm
  have aL : Lk Bd.a = some (.dK (skv S0.hour gv Bd.r)) := oL.dK hl3.ar ha3
  have thr : th ≠ Bd.r := fun e => by
    rw [e] at h3
    rw [hr3] at h3
    cases h3
  have thL : L2Q K Lk th 0 0 := hth.off oL thr
  have cL : L2Q K Lk c cs cw := (hc.off (R := fun _ => False) (.same s03) id).off oL ncr
  have oLo : L2Q K Lk o (cs - S.sug nms) (cw - S.wtr nms - S.gone) := (ho.off (R := fun _ => False) (.same s03) id).off oL nor
  have gaL : FrQ K Lk ga S.gone := hga.tk oL.tk
  refine ⟨_, rfl, Bd.a, _, rfl, .inl ⟨_, kN "rows", .inl aL, rfl, rfl⟩, Bd.r, od, _, rfl, gL, ?_⟩
  refine for_items (fun i σ H' => ∃ (x6 x7 x8 : Option V) (t : Addr), σ = [some (.ref Ad.p), some (.ref Bd.a), some (.ref c), some (.ref o), some (.ref t), some (.ref ga), x6, x7, x8] ∧ Same Lk H' ∧ L2Q K H' t (sumF (fun x => (S.st x).s) (nms.take i)) (sumF (fun x => (S.st x).w) (nms.take i)) ∧ t ≠ Bd.r) ⟨_, _, _, th, rfl, .refl _, thL, thr⟩ (fun i σ H' _ ⟨_, _, _, _, _, sm, _, _⟩ => sm _ _ gL) ?_ ?_
  · rintro i k v σ H' t0 hi ⟨x6, x7, x8, t, rfl, sm, ht, tr⟩ nt
    obtain ⟨x, hx, e⟩ := byK_get hi
    cases e
    have hxm := List.mem_of_getElem? hx
    have st : Same H' (upd H' t0 (.tup [kV (kN x), .ref (Bd.c x)])) := same_new nt
    have ht0 : (upd H' t0 (.tup [kV (kN x), .ref (Bd.c x)])) t0 = some (.tup [kV (kN x), .ref (Bd.c x)]) := upd_same
    generalize upd H' t0 _ = G0 at st ht0
    have sG := sm.trans st
    have hkG := hkL.same sG
    have rowG := (rowL x hxm).off (R := fun _ => False) (.same sG) id
    obtain ⟨dxl, bvl, hpG, _⟩ := hkG.p
    obtain ⟨mv, sv, wv, hr0, _, _, _⟩ := rowG
    have kx := okk x hxm
    refine ⟨t0, _, rfl, SqT.of ht0, rfl, _, _, rfl, _, _, rfl, rfl, ?_⟩
    refine ⟨_, rfl, Ad.p, dxl, _, rfl, hpG, rfl, _, rfl, Ad, nms, S, x, rfl, hkG, fun z => absurd hxm z, fun _ ja hja => ?_⟩
    obtain ⟨js, jw, j1, j2, j3⟩ := id hja
    have g2 := sG
    refine ⟨_, rfl, ja, _, 0, _, rfl, rfl, j1, at0, js, _, 0, _, rfl, rfl, j2, at0, _, _, rfl, rfl, _, rfl, ?_⟩
    have n1 : decide ((S.st x).s.num < 0) = false := decide_eq_false (by have := Rat.num_nonneg.mpr kx.s0; omega)
    have n2 : decide ((S.st x).w.num < 0) = false := decide_eq_false (by have := Rat.num_nonneg.mpr kx.w0; omega)
    rw [n1]
    refine iteF ⟨_, rfl, ja, _, 1, _, rfl, rfl, j1, at1, jw, _, 0, _, rfl, rfl, j3, at0, _, _, rfl, rfl, _, rfl, ?_⟩
    rw [n2]
    refine iteF ⟨_, rfl, Bd.c x, _, 0, _, rfl, rfl, SqL.of hr0, at0, rfl, fun u1 G1 e1 k1 f1 => ?_⟩
    refine ⟨_, rfl, ja, _, 0, _, rfl, rfl, Same.tup e1 j1, at0, _, rfl, ja, _, 1, _, rfl, rfl, Same.tup e1 j1, at1, js, jw, _, _, rfl, j2.same e1, j3.same e1, ?_, ?_, trivial, fun u2 G2 e2 k2 f2 => ?_⟩
    · exact (kx.inS n).big n (by decide +kernel)
    · exact (kx.inW n).big n (by decide +kernel)
    refine ⟨u1, u2, ((S0.st x).room : Rat), _, rfl, (FrQ.int f1).same e2, f2, ?_, ?_, _, rfl, ?_⟩
    · rw [← J.rm x]; exact kx.room_sz
    · exact ((kx.inS n).add (kx.inW n)).big n (by decide +kernel)
    rw [decide_eq_false (show ¬ ((S0.st x).room : Rat) < (S.st x).s + (S.st x).w by rw [← J.rm x]; have := kx.vol; grind)]
    refine iteF ?_
    have s2' := e1.trans e2
    have htG : L2Q K G2 t _ _ := ht.off (R := fun _ => False) (.same (st.trans s2')) id
    have hS : ∀ i : Nat, i ≤ nms.length → Big (sumF (fun x => (S.st x).s) (nms.take i)) ∧ Big (sumF (fun x => (S.st x).w) (nms.take i)) := fun i _ => by
      have l9 : (((nms.take i).length : Nat) : Int) ≤ (8 : Int) := by rw [List.length_take]; have := J.inv.n8; omega
      have l8 : ((((nms.take i).length : Nat) : Int) : Rat) ≤ 8 := by
        have b := Rat.intCast_le_intCast.mpr l9
        have c : ((8 : Int) : Rat) = 8 := by decide +kernel
        rwa [c] at b
      obtain ⟨a1, a2, a3⟩ := sumF_in (N := N) (f := fun x => (S.st x).s) (l := nms.take i) fun x hx => have hx := List.mem_of_mem_take hx; ⟨(okk x hx).sd.up n.dm, (okk x hx).s0, (okk x hx).s9.1⟩
      obtain ⟨b1, b2, b3⟩ := sumF_in (N := N) (f := fun x => (S.st x).w) (l := nms.take i) fun x hx => have hx := List.mem_of_mem_take hx; ⟨(okk x hx).wd.up n.dml, (okk x hx).w0, (okk x hx).s9.2⟩
      exact ⟨(show In N 4000000000 _ from ⟨a1, by grind, by grind⟩).big n (by decide +kernel), (show In N 4000000000 _ from ⟨b1, by grind, by grind⟩).big n (by decide +kernel)⟩
    have ilt := (List.getElem?_eq_some_iff.mp hx).1
    refine ⟨_, rfl, _, rfl, t, ja, _, _, (S.st x).s, (S.st x).w, rfl, htG, hja.same s2', (hS i (by omega)).1, (hS i (by omega)).2, (kx.inS n).big n (by decide +kernel), (kx.inW n).big n (by decide +kernel), fun t2 G3 e3 k3 ht3 => ?_⟩
    refine ⟨_, _, _, t2, rfl, sG.trans (s2'.trans e3), ?_, fun e => ?_⟩
    · rw [sumF_take hx, sumF_take hx]
      exact ht3
    · rw [e] at k3
      have := (sG.trans s2') _ _ gL
      rw [k3] at this
      cases this
  · rintro σ H' ⟨x6, x7, x8, t, rfl, sm, ht, tr⟩
    rw [byK_len, List.take_length] at ht
    refine ⟨sm _ _ gL, ?_⟩
    have hU := lk sm
    have tkU := tk_unlock (K := K) (sm _ _ gL)
    obtain ⟨ta, tb, t1, t2, t3⟩ := ht
    have tU : (upd H' Bd.r (.dK (byK kN nms fun x => .ref (Bd.c x)))) t = some (.lst [.ref ta, .ref tb]) := by rw [upd_ne tr]; exact t1
    have fa := t2.tk tkU
    have fb := t3.tk tkU
    have s0U := s03.trans hU
    obtain ⟨ca, cb, c1, c2, c3⟩ := hc.off (R := fun _ => False) (.same s0U) id
    obtain ⟨oa, ob, o1, o2, o3⟩ := ho.off (R := fun _ => False) (.same s0U) id
    have gU : FrQ K _ ga S.gone := hga.same hU
    generalize upd H' Bd.r (HO.dK _) = HU at hU tU fa fb s0U c1 c2 c3 o1 o2 o3 gU
    refine ⟨_, rfl, _, rfl, t, _, 0, _, rfl, rfl, SqL.of tU, at0, _, rfl, o, _, 0, _, rfl, rfl, SqL.of o1, at0, ta, oa, _, _, rfl, fa, o2, bg.b6, bg.b3, trivial, fun p1 H4 s4 n4 f4 => ?_⟩
    refine ⟨_, rfl, t, _, 1, _, rfl, rfl, SqL.of (s4 _ _ tU), at1, _, rfl, o, _, 1, _, rfl, rfl, SqL.of (s4 _ _ o1), at1, tb, ob, _, _, rfl, fb.same s4, o3.same s4, bg.b7, bg.b4, trivial, fun p2 H5 s5 n5 f5 => ?_⟩
    refine ⟨_, rfl, p2, ga, _, _, rfl, f5, gU.same (s4.trans s5), bg.b5, bg.b8, trivial, fun p3 H6 s6 n6 f6 => ⟨rfl, fun z H7 s7 n7 h7 => ?_⟩⟩
    have f4' : FrQ K H7 p1 (sumF (fun x => (S.st x).s) nms + (cs - S.sug nms)) := f4.same (s5.trans (s6.trans s7))
    have f6' : FrQ K H7 p3 (S.wtr nms + (cw - S.wtr nms - S.gone) + S.gone) := f6.same s7
    rw [show sumF (fun x => (S.st x).s) nms + (cs - S.sug nms) = cs by unfold KS.sug; grind] at f4'
    rw [show S.wtr nms + (cw - S.wtr nms - S.gone) + S.gone = cw by grind] at f6'
    have sU7 := s4.trans (s5.trans (s6.trans s7))
    refine ⟨.list [dq cs, dq cw], .list [dq cs, dq cw], .lst (SqL.of (sU7 _ _ c1)) (.cons (c2.same sU7).dp (.cons (c3.same sU7).dp .nil)), .lst (SqL.of h7) (.cons f4'.dp (.cons f6'.dp .nil)), rfl, rfl, ?_⟩
    rw [show PyData.eqv (.list [dq cs, dq cw]) (.list [dq cs, dq cw]) = true by
      show (PyData.eqv (dq cs) (dq cs) && (PyData.eqv (dq cw) (dq cw) && true)) = true
      rw [eqv_dq, eqv_dq, decide_eq_true rfl, decide_eq_true rfl] <;> rfl]
    exact q _ (s0U.trans sU7)
  in #guard_msgs (pass all) in example : True := trivial

end
end KR
namespace KR
open PySem PySem.Spec PyProof.Rows L2
section
variable {P : Program} {w : World} {K : PySem.W.Frag} {mg : Str → Option Value} {base : Heap}
set_option Elab.async true in
theorem tail27 (T : All K mg) {D : Ends} {H : Hp} {v0 v1 v2 v3 x8 x11 : Option V} {A : KAd} {Bk : LKA} {nms : List Str} {S S1 S' : KS} {c o d ga : Addr} {cs cw : Rat} {j : Nat} {w1 : Str} {xs1 : List V} (hk : KettlesAt K T.C_Kettles T.C_Kettle H A nms S') (hl : LKAt K H Bk nms S) (J : J27 nms j S S' cs cw) (j9 : j ≤ 400) (tr : A.t ≠ Bk.r) (hc : L2Q K H c cs cw) (ho : L2Q K H o (cs - S'.sug nms) (cw - S'.wtr nms - S'.gone)) (hd : SqT K H d (.str w1 :: xs1)) (hg : FrQ K H ga S1.gone) (bg : Big S1.gone) (gl : (w1 = "boil" ∧ S1.gone ≤ S'.gone) ∨ S'.gone = S1.gone) (nxt : ∀ H', Same H H' → D.nx [v0, v1, v2, v3, some (.ref A.p), some (.ref Bk.a), some (.ref c), some (.ref o), x8, some (.ref d), some (.ref ga), x11] H') :
    tSeq (tIfS (tOr (tB (tCall (sp_lessB K) [] E0 (tCons (tMeth T.C_Kettles (Str.ofString "boiled_off") (sp_Kettles_gone K T.C_Kettles T.C_Kettle) [] E0 (tVar 4) tNil) (tCons (tVar 10) tNil)))) (tAnd (tTest (tOp rNe (tOp (rIxT K) (tVar 9) (tC (V.int 0))) (tC (V.str (Str.ofString "boil"))))) (tTest (tOp (rNeD K) (tMeth T.C_Kettles (Str.ofString "boiled_off") (sp_Kettles_gone K T.C_Kettles T.C_Kettle) [] E0 (tVar 4) tNil) (tVar 10))))) (tRet (tC (V.bl false))) tNext)
      (tIfS (tNot (tB (tCall (sp_sumright T) [] E0 (tCons (tVar 4) (tCons (tVar 5) (tCons (tVar 6) (tCons (tVar 7) tNil))))))) (tRet (tC (V.bl false))) tNext)
      D [v0, v1, v2, v3, some (.ref A.p), some (.ref Bk.a), some (.ref c), some (.ref o), x8, some (.ref d), some (.ref ga), x11] H := by
  have bgn := J.big j9
  obtain ⟨dx, bv, hp, _⟩ := hk.p
  obtain ⟨_, _, hc1, _⟩ := id hc
  obtain ⟨_, _, ho1, _⟩ := id ho
  have fin : tIfS (tNot (tB (tCall (sp_sumright T) [] E0 (tCons (tVar 4) (tCons (tVar 5) (tCons (tVar 6) (tCons (tVar 7) tNil))))))) (tRet (tC (V.bl false))) tNext D [v0, v1, v2, v3, some (.ref A.p), some (.ref Bk.a), some (.ref c), some (.ref o), x8, some (.ref d), some (.ref ga), x11] H := by
    refine ⟨_, rfl, _, rfl, _, rfl, _, rfl, A, Bk, nms, S', S, j, c, o, cs, cw, rfl, hk, hl, J, j9, tr, fun e => ?_, fun e => ?_, hc, ho, fun H' s => ⟨_, rfl, iteF (nxt H' s)⟩⟩
    · rw [e, hl.r] at hc1
      cases hc1
    · rw [e, hl.r] at ho1
      cases ho1
  refine ⟨_, rfl, A.p, dx, _, rfl, hp, rfl, A, nms, S', rfl, hk, fun g2 hg2 => ⟨_, rfl, g2, ga, S'.gone, S1.gone, rfl, hg2, hg, bgn.b8, bg, _, rfl, ?_⟩⟩
  rw [decide_eq_false (show ¬ S'.gone < S1.gone by
    rcases gl with ⟨_, h⟩ | h
    · exact Rat.not_lt.mpr h
    · rw [h]; exact Rat.lt_irrefl)]
  refine iteF ⟨_, rfl, d, _, 0, _, rfl, rfl, hd, at0, rfl, _, rfl, ?_⟩
  by_cases cb : V.str w1 = V.str (Str.ofString "boil")
  · rw [decide_eq_true cb]
    exact iteF (iteF fin)
  · rw [decide_eq_false cb]
    have e : S'.gone = S1.gone := gl.resolve_left fun z => cb (by rw [z.1] <;> rfl)
    refine iteT ⟨_, rfl, A.p, dx, _, rfl, hp, rfl, A, nms, S', rfl, hk, fun g3 hg3 => ⟨_, rfl, dq S'.gone, dq S1.gone, hg3.dp, hg.dp, rfl, rfl, _, rfl, ?_⟩⟩
    rw [e, eqv_dq, decide_eq_true rfl]
    exact iteF fin
  in #guard_msgs (pass all) in example : True := trivial
def sp_p_law (K : PySem.W.Frag) (Ps : List Addr) : Sp := fun vs H Q _ => ∃ (a : Addr) (ns : List Int), vs = [.ref a] ∧ SqL K H a (ns.map V.int) ∧ ns.length ≤ 63 ∧ Tbs Ps H ∧ ∀ H', Q (.bl true) H'
set_option Elab.async true in
theorem ok_p_law (T : All K mg) (B : Tabs T base) : FnG P w K mg base 12 T.f_p_law T.fd_p_law ["_law_script"] (sp_p_law K T.Ps) := by
  refine okG T.d_p_law.fn sc_p_law (fun vs H Q E h => ?_) (fun cdv A outer s H vs Q E hr hg h => ?_)
  · obtain ⟨a, ns, rfl, _⟩ := h
    rfl
  · obtain ⟨a, ns, rfl, hS, hlen, hT, q⟩ := h
    refine ⟨_, (pss_cons (ps_set (i := 1) sc_p_law.nd rfl (by first | exact Or.inl rfl | exact Or.inr rfl) (pe_lstI (pa_cons pe_str (pa_cons pe_str (pa_cons pe_str (pa_cons pe_str (pa_cons pe_str (pa_cons pe_str (pa_cons pe_str (pa_cons pe_str (pa_cons pe_str (pa_cons pe_str (pa_cons pe_str pa_nil)))))))))))))
      (pss_cons (ps_for PassesOwn.never rfl (pi_range1 (by rfl) T.b_range (pa_cons (pe_op op_add pe_int (pe_callB (call_min2 rfl) (by rfl) T.b_min (by decide +kernel) (pa_cons pe_int (pa_cons (pe_callB (lenQ (K := K) rfl) (by rfl) T.b_len PySem.boot_len (pa_cons (pv 0) pa_nil)) pa_nil)))) pa_nil)) (pg_name (i := 2) sc_p_law.nd rfl (by first | exact Or.inl rfl | exact Or.inr rfl)) (pss_cons (ps_set (i := 3) sc_p_law.nd rfl (by first | exact Or.inl rfl | exact Or.inr rfl) (pe_call (ok_l_box T) (hr.mono (by decide)) (by rfl) T.d_l_box.mg T.d_l_box.fn.kp T.d_l_box.b .nil pass0 (pa_cons (pv 0) (pa_cons (pv 2) pa_nil))))
      (pss_cons (ps_asg (pe_call (ok_l_begun T B) (hr.mono (by decide)) (by rfl) T.d_l_begun.mg T.d_l_begun.fn.kp T.d_l_begun.b .nil pass0 (pa_cons (pv 3) (pa_cons (pe_op op_add pe_int (pe_call (ok_l_take T) (hr.mono (by decide)) (by rfl) T.d_l_take.mg T.d_l_take.fn.kp T.d_l_take.b .nil pass0 (pa_cons (pv 3) (pa_cons pe_int pa_nil)))) pa_nil))) (pg_tupK (K := K) rfl rfl (pgs_cons (pg_name (i := 4) sc_p_law.nd rfl (by first | exact Or.inl rfl | exact Or.inr rfl)) (pgs_cons (pg_name (i := 5) sc_p_law.nd rfl (by first | exact Or.inl rfl | exact Or.inr rfl)) pgs_nil))))
      (pss_cons (ps_par (i := 6) (j := 7) (by rfl) sc_p_law.nd rfl rfl (by decide) rfl rfl (pa_cons (pe_lstI (pa_cons (pe_tupI (pa_cons pe_int (pa_cons pe_int pa_nil))) (pa_cons (pe_tupI (pa_cons pe_int (pa_cons pe_int pa_nil))) pa_nil))) (pa_cons (pe_lstI (pa_cons (pe_tupI (pa_cons pe_int (pa_cons pe_int pa_nil))) (pa_cons (pe_tupI (pa_cons pe_int (pa_cons pe_int pa_nil))) pa_nil))) pa_nil)) (by rfl))
      (pss_one (ps_for PassesOwn.never rfl (pi_range1 (by rfl) T.b_range (pa_cons (pe_ifExp (pt_cmpR op_eq (pe_call (ok_l_take T) (hr.mono (by decide)) (by rfl) T.d_l_take.mg T.d_l_take.fn.kp T.d_l_take.b .nil pass0 (pa_cons (pv 3) (pa_cons pe_int pa_nil))) pe_int (nomark _)) pe_int (pe_op op_add pe_int (pe_call (ok_l_take T) (hr.mono (by decide)) (by rfl) T.d_l_take.mg T.d_l_take.fn.kp T.d_l_take.b .nil pass0 (pa_cons (pv 3) (pa_cons pe_int pa_nil))))) pa_nil)) (pg_name (i := 8) sc_p_law.nd rfl (by first | exact Or.inl rfl | exact Or.inr rfl)) (pss_cons (ps_par (i := 9) (j := 10) (by rfl) sc_p_law.nd rfl rfl (by decide) rfl rfl (pa_cons (pe_call (ok_l_deed T) (hr.mono (by decide)) (by rfl) T.d_l_deed.mg T.d_l_deed.fn.kp T.d_l_deed.b .nil pass0 (pa_cons (pv 3) (pa_cons (pv 5) (pa_cons (pv 1) pa_nil)))) (pa_cons (pe_meth0 (pv 4) T.L_Kettles T.m_Kettles_boiled_off (ok_Kettles_boiled_off T) (hr.mono (by decide)) T.b_Kettles_boiled_off .nil pass0) pa_nil)) (by rfl))
      (pss_cons (ps_set (i := 11) sc_p_law.nd rfl (by first | exact Or.inl rfl | exact Or.inr rfl) (pe_call (ok_l_told T) (hr.mono (by decide)) (by rfl) T.d_l_told.mg T.d_l_told.fn.kp T.d_l_told.b .nil pass0 (pa_cons (pv 4) (pa_cons (pv 9) pa_nil))))
      (pss_cons (ps_if (PW.pt (pw_and (pt_cmpR op_eq (pe_ix (ixT (K := K) rfl) (pv 11) pe_int (fun _ _ => rfl)) pe_str (nomark _)) (pw_and1 (pt_cmpR op_eq (pe_ix (ixT (K := K) rfl) (pv 9) pe_int (fun _ _ => rfl)) pe_str (nomark _))))) (pss_one (ps_set (i := 6) sc_p_law.nd rfl (by first | exact Or.inl rfl | exact Or.inr rfl) (pe_call (ok_l_more T) (hr.mono (by decide)) (by rfl) T.d_l_more.mg T.d_l_more.fn.kp T.d_l_more.b .nil pass0 (pa_cons (pv 6) (pa_cons (pe_ix (ixT (K := K) rfl) (pv 9) pe_int (fun _ _ => rfl)) pa_nil))))) pss_nil)
      (pss_cons (ps_if (PW.pt (pw_and (pt_cmpR op_eq (pe_ix (ixT (K := K) rfl) (pv 11) pe_int (fun _ _ => rfl)) pe_str (nomark _)) (pw_and1 (pt_cmpR op_eq (pe_ix (ixT (K := K) rfl) (pv 9) pe_int (fun _ _ => rfl)) pe_str (nomark _))))) (pss_one (ps_set (i := 7) sc_p_law.nd rfl (by first | exact Or.inl rfl | exact Or.inr rfl) (pe_call (ok_l_more T) (hr.mono (by decide)) (by rfl) T.d_l_more.mg T.d_l_more.fn.kp T.d_l_more.b .nil pass0 (pa_cons (pv 7) (pa_cons (pe_ix (ixT (K := K) rfl) (pv 11) pe_int (fun _ _ => rfl)) pa_nil))))) pss_nil)
      (pss_cons (ps_if (PW.pt (pw_and (pt_cmpR op_eq (pe_ix (ixT (K := K) rfl) (pv 11) pe_int (fun _ _ => rfl)) pe_str (nomark _)) (pw_and1 (pt_cmpR op_eq (pe_ix (ixT (K := K) rfl) (pv 9) pe_int (fun _ _ => rfl)) pe_str (nomark _))))) (pss_one (ps_set (i := 7) sc_p_law.nd rfl (by first | exact Or.inl rfl | exact Or.inr rfl) (pe_call (ok_l_more T) (hr.mono (by decide)) (by rfl) T.d_l_more.mg T.d_l_more.fn.kp T.d_l_more.b .nil pass0 (pa_cons (pv 7) (pa_cons (pe_ix (ixT (K := K) rfl) (pe_ix (ixT (K := K) rfl) (pv 11) pe_int (fun _ _ => rfl)) pe_int (fun _ _ => rfl)) pa_nil))))) pss_nil)
      (pss_cons (ps_if (PW.pt (pw_or (pt_val (pe_call (ok_l_less T) (hr.mono (by decide)) (by rfl) T.d_l_less.mg T.d_l_less.fn.kp T.d_l_less.b .nil pass0 (pa_cons (pe_meth0 (pv 4) T.L_Kettles T.m_Kettles_boiled_off (ok_Kettles_boiled_off T) (hr.mono (by decide)) T.b_Kettles_boiled_off .nil pass0) (pa_cons (pv 10) pa_nil)))) (pw_or1 (PW.pt (pw_and (pt_cmpR op_ne (pe_ix (ixT (K := K) rfl) (pv 9) pe_int (fun _ _ => rfl)) pe_str (nomark _)) (pw_and1 (pt_cmpR (neDK (K := K) rfl hr.units) (pe_meth0 (pv 4) T.L_Kettles T.m_Kettles_boiled_off (ok_Kettles_boiled_off T) (hr.mono (by decide)) T.b_Kettles_boiled_off .nil pass0) (pv 10) (nomark _)))))))) (pss_one (ps_ret pe_bl)) pss_nil)
      (pss_one (ps_if (pt_not (pt_val (pe_call (ok_l_sum_right T) (hr.mono (by decide)) (by rfl) T.d_l_sum_right.mg T.d_l_sum_right.fn.kp T.d_l_sum_right.b .nil pass0 (pa_cons (pv 4) (pa_cons (pv 5) (pa_cons (pv 6) (pa_cons (pv 7) pa_nil))))))) (pss_one (ps_ret pe_bl)) pss_nil))))))))))))))
      (pss_one (ps_ret pe_bl)))), ?_⟩
    refine ⟨rfl, fun l Hm sm nm hm => ?_⟩
    have hm : Hm l = some (.lst ((["pour", "pour", "pour", "boil", "boil", "dip", "ladle", "ladle", "skim", "stop", "start"] : List Str).map V.str)) := hm
    have wl : ∀ w ∈ (["pour", "pour", "pour", "boil", "boil", "dip", "ladle", "ladle", "skim", "stop", "start"] : List Str), w ∈ sevD := by decide +kernel
    have w0 : (["pour", "pour", "pour", "boil", "boil", "dip", "ladle", "ladle", "skim", "stop", "start"] : List Str) ≠ [] := nofun
    have w9 : (["pour", "pour", "pour", "boil", "boil", "dip", "ladle", "ladle", "skim", "stop", "start"] : List Str).length ≤ 60 := by show 11 ≤ 60; decide
    generalize (["pour", "pour", "pour", "boil", "boil", "dip", "ladle", "ladle", "skim", "stop", "start"] : List Str) = ws at hm wl w0 w9
    obtain ⟨M, eM, M5⟩ : ∃ M : Nat, 1 + (if (ns.length : Int) < 3 then (ns.length : Int) else 3) = (M : Int) ∧ M ≤ 4 := by
      refine ⟨(1 + (if (ns.length : Int) < 3 then (ns.length : Int) else 3)).toNat, ?_, ?_⟩ <;> split <;> omega
    have om : Off K (fun _ => False) H Hm := .same sm
    refine ⟨_, rfl, a, _, rfl, .inl (om.seqL id hS), _, _, rfl, _, _, rfl, rfl, M, ?_, by omega, by omega, ?_⟩
    · rw [← eM, List.length_map] <;> rfl
    refine for_range (lo := 0) (n := M) (fun i σ H' => ∃ (x2 x3 x4 x5 x6 x7 x8 x9 x10 x11 : Option V), σ = [some (.ref a), some (.ref l), x2, x3, x4, x5, x6, x7, x8, x9, x10, x11] ∧ SqL K H' a (ns.map V.int) ∧ Tbs T.Ps H' ∧ H' l = some (.lst (ws.map V.str))) ⟨none, none, none, none, none, none, none, none, none, none, rfl, om.seqL id hS, om.tbs hT, hm⟩ ?_ ?_
    case' refine_2 =>
      rintro σ H' ⟨x2, x3, x4, x5, x6, x7, x8, x9, x10, x11, rfl, _, _, _⟩
      exact q _
    rintro i σ H0 hi ⟨x2, x3, x4, x5, x6, x7, x8, x9, x10, x11, rfl, hS0, hT0, hm0⟩
    refine ⟨_, rfl, _, rfl, a, ns, 0 + (i : Int), rfl, hS0, by omega, by omega, fun b H1 s1 n1 B1 => ?_⟩
    refine ⟨_, rfl, _, rfl, b, 6, _, rfl, B1, by omega, by decide, by decide, fun y H2 y0 y1 B2 F2 => ⟨_, _, rfl, rfl, ?_⟩⟩
    have o2 : Off K (fun _ => False) H0 H2 := (Off.refl (K := K) (R := fun _ => False)).trans (((Off.same (K := K) (R := (· = b)) s1).seq (.box B1 F2))) fun a z => .inr (.of (by rw [z]; exact n1))
    refine ⟨b, 1, (1 + y).toNat, ?_, by omega, by omega, B2, by decide, o2.tbs hT0, fun ta A Bk nms S H3 ht hk hl inv zero nd len lay nk nl B3 o3 => ?_⟩
    · show [V.ref b, V.int (1 + y)] = [V.ref b, V.int (((1 + y).toNat : Nat) : Int)]
      rw [show (((1 + y).toNat : Nat) : Int) = 1 + y by omega]
    refine ⟨ta, _, rfl, ht, rfl, _, _, rfl, _, _, rfl, rfl, ?_⟩
    obtain ⟨bx, hbx⟩ := box_lst B2
    have nw0 : ∀ c, KQ A nms c ∨ LKQ Bk nms c ∨ c = b → Nw H0 c := fun c r => by
      rcases r with r | r | r
      · exact Nw.back (R := fun _ => False) (K := K) o2 id (nk c r).2
      · exact Nw.back (R := fun _ => False) (K := K) o2 id (nl c r)
      · rw [r]; exact .of n1
    have lR : ∀ c, KQ A nms c ∨ LKQ Bk nms c ∨ c = b → c ≠ l := fun c r => (nw0 c r).ne hm0 .lst
    have lb : l ≠ b := (lR b (.inr (.inr rfl))).symm
    have kb' : ∀ c, KQ A nms c → c ≠ b := fun c r => (nk c r).2.ne hbx .lst
    have lb' : ∀ c, LKQ Bk nms c → c ≠ b := fun c r => (nl c r).ne hbx .lst
    have o4 : Off K (fun _ => False) H0 H3 := o2.trans o3 fun a z => .inr (.of (by rw [z]; exact n1))
    have tr : A.t ≠ Bk.r := fun e => (nk A.t (.inr rfl)).1 (.inr e)
    have nn : nms ≠ [] := fun e => by rw [e] at len; simp at len; omega
    have W0 : Wd K H0 H3 [tLk K Bk nms S, tKe K T.C_Kettles T.C_Kettle A nms S, tBox K b (1 + 70)] :=
      (((Wd.start o4).put (t := tBox K b (1 + 70)) B3 .nil fun c z => nw0 c (.inr (.inr z))).put (t := tKe K T.C_Kettles T.C_Kettle A nms S) hk (.cons (fun c r => kb' c r) .nil) fun c r => nw0 c (.inl r)).put (t := tLk K Bk nms S) hl (.cons (fun c r z => (nk c z).1 r) (.cons (fun c r => lb' c r) .nil)) fun c r => nw0 c (.inr (.inl r))
    refine ⟨rfl, fun z1 G1 e1 k1 g1 => ⟨rfl, fun z2 G2 e2 k2 g2 => ⟨rfl, fun c G3 e3 k3 g3 => ?_⟩⟩⟩
    have W1 : Wd K H0 G3 [tL2 K c 0 0, tLk K Bk nms S, tKe K T.C_Kettles T.C_Kettle A nms S, tBox K b (1 + 70)] := (W0.same (e1.trans e2)).add (t := tL2 K c 0 0) (R := fun _ => False) (.same e3) (fun _ z => z.elim) ⟨z1, z2, g3, (FrQ.int (z := 0) g1).same (e2.trans e3), (FrQ.int (z := 0) g2).same e3⟩ fun d z => by rw [show d = c from z]; exact .of k3
    refine ⟨rfl, fun z3 G4 e4 k4 g4 => ⟨rfl, fun z4 G5 e5 k5 g5 => ⟨rfl, fun o G6 e6 k6 g6 => ⟨_, _, rfl, ?_⟩⟩⟩⟩
    have W2 : Wd K H0 G6 (T27 K T.C_Kettles T.C_Kettle nms b A Bk c o (1 + 70) S S 0 0 0 0) := (W1.same (e4.trans e5)).add (t := tL2 K o 0 0) (R := fun _ => False) (.same e6) (fun _ z => z.elim) ⟨z3, z4, g6, (FrQ.int (z := 0) g4).same (e5.trans e6), (FrQ.int (z := 0) g5).same e6⟩ fun d z => by rw [show d = o from z]; exact .of k6
    refine ⟨_, rfl, b, 3, _, rfl, W2.ok 4 _ rfl, by omega, by decide, by decide, fun y2 H5 y20 y21 B5 F5 => ?_⟩
    have W3 : Wd K H0 H5 (T27 K T.C_Kettles T.C_Kettle nms b A Bk c o (1 + 70 + 1) S S 0 0 0 0) := W2.box (i := 4) rfl F5 B5
    refine ⟨rfl, _, rfl, ?_⟩
    have st0 : 0 = S.sug nms ∧ 0 = S.wtr nms ∧ 0 = S.gone := by
      refine ⟨?_, ?_, ?_⟩
      · have : ∀ l : List Str, (∀ x ∈ l, x ∈ nms) → sumF (fun x => (S.st x).s) l = 0 := fun l => by
          induction l with
          | nil => intro _; rfl
          | cons x l ih =>
            intro hl'
            show (S.st x).s + sumF _ l = 0
            rw [(zero x (hl' x List.mem_cons_self)).1, ih fun y hy => hl' y (List.mem_cons_of_mem _ hy)]
            grind
        exact (this nms fun _ => id).symm
      · have : ∀ l : List Str, (∀ x ∈ l, x ∈ nms) → sumF (fun x => (S.st x).w) l = 0 := fun l => by
          induction l with
          | nil => intro _; rfl
          | cons x l ih =>
            intro hl'
            show (S.st x).w + sumF _ l = 0
            rw [(zero x (hl' x List.mem_cons_self)).2, ih fun y hy => hl' y (List.mem_cons_of_mem _ hy)]
            grind
        exact (this nms fun _ => id).symm
      · have g9 := inv.g9
        have g0 := inv.g0
        have e : (((8000000 * 0 : Nat) : Int) : Rat) = 0 := rfl
        rw [e] at g9
        grind
    by_cases c0 : V.int y2 = V.int 0
    case' pos =>
      rw [decide_eq_true c0]
      refine iteT ?_
      obtain ⟨N, eN, N9⟩ : ∃ N : Nat, (60 : Int) = (N : Int) ∧ N ≤ 60 := ⟨60, rfl, by decide⟩
      obtain ⟨HX, eX⟩ : ∃ HX, HX = H5 := ⟨_, rfl⟩
      subst eX
      obtain ⟨m, m9, WX⟩ : ∃ m, m ≤ 80 ∧ Wd K H0 HX (T27 K T.C_Kettles T.C_Kettle nms b A Bk c o m S S 0 0 0 0) := ⟨_, by decide, W3⟩
      refine ⟨(N : Int), by rw [← eN], by omega, by omega, ?_⟩
    case' neg =>
      rw [decide_eq_false c0]
      refine iteF ⟨_, rfl, b, 25, _, rfl, W3.ok 4 _ rfl, by omega, by decide, by decide, fun y3 H6 y30 y31 B6 F6 => ⟨_, _, rfl, rfl, ?_⟩⟩
      obtain ⟨N, eN, N9⟩ : ∃ N : Nat, 1 + y3 = (N : Int) ∧ N ≤ 60 := ⟨(1 + y3).toNat, by omega, by omega⟩
      obtain ⟨HX, eX⟩ : ∃ HX, HX = H6 := ⟨_, rfl⟩
      subst eX
      obtain ⟨m, m9, WX⟩ : ∃ m, m ≤ 80 ∧ Wd K H0 HX (T27 K T.C_Kettles T.C_Kettle nms b A Bk c o m S S 0 0 0 0) := ⟨_, by decide, W3.box (i := 4) rfl F6 B6⟩
      refine ⟨(N : Int), by rw [← eN], by omega, by omega, ?_⟩
    all_goals
      refine for_range (lo := 0) (n := N) (fun t σ H' => ∃ (x8 x9 x10 x11 : Option V) (S1 : KS) (c o : Addr) (cs cw : Rat), σ = [some (.ref a), some (.ref l), some (.int (0 + (i : Int))), some (.ref b), some (.ref A.p), some (.ref Bk.a), some (.ref c), some (.ref o), x8, x9, x10, x11] ∧ Wd K H0 H' (T27 K T.C_Kettles T.C_Kettle nms b A Bk c o (m + 40 * t) S S1 cs cw (cs - S1.sug nms) (cw - S1.wtr nms - S1.gone)) ∧ J27 nms t S S1 cs cw) ⟨_, _, _, _, S, c, o, 0, 0, rfl, ?_, ?_⟩ ?_ ?_
      case' refine_1 =>
        obtain ⟨a1, a2, a3⟩ := st0
        rw [← a1, ← a2, ← a3, show (0 : Rat) - 0 = 0 by grind, show (0 : Rat) - 0 = 0 by grind]
        exact WX
      case' refine_2 =>
        exact ⟨inv, fun _ => rfl, fun _ => rfl, Rat.le_refl, Rat.le_refl, .zero, Rat.le_refl, Rat.le_refl, fun _ _ => .zero⟩
      case' refine_4 =>
        rintro σ H' ⟨x8, x9, x10, x11, S1, c1, o1, cs, cw, rfl, W, J⟩
        exact ⟨_, _, _, _, _, _, _, _, _, _, rfl, W.oH.seqL id hS0, W.oH.tbs hT0, W.oH.lst id hm0⟩
      rintro t σ HT ht ⟨x8, x9, x10, x11, S1, c1, o1, cs, cw, rfl, W, J⟩
      refine ⟨_, rfl, _, rfl, _, rfl, b, _, Bk, nms, S, 0, l, ws, rfl, W.ok 4 _ rfl, by omega, W.ok 2 _ rfl, nn, inv, by decide, W.oH.lst id hm0, w0, w9, wl, lb, fun c r => lb' c (.inl r), lb' _ (.inr rfl), fun d D P1 C1 p1 hd okA => ?_⟩
      have ok : KDOk nms S1 D := okA S1 fun y _ => J.mr y
      have Wa : Wd K H0 P1 (T27 K T.C_Kettles T.C_Kettle nms b A Bk c1 o1 (m + 40 * t + 40) S S1 cs cw (cs - S1.sug nms) (cw - S1.wtr nms - S1.gone)) := W.boxO (i := 4) rfl p1 C1
      have ka : KettlesAt K T.C_Kettles T.C_Kettle P1 A nms S1 := Wa.ok 3 _ rfl
      obtain ⟨dxa, bva, hpa, _⟩ := ka.p
      refine ⟨_, rfl, A.p, dxa, _, rfl, hpa, rfl, A, nms, S1, rfl, ka, fun ga hga => ⟨_, _, rfl, ?_⟩⟩
      refine ⟨_, rfl, _, rfl, A, nms, S1, t, d, D, rfl, ka, nd, J.inv, by omega, hd, ok, lay, fun v P2 k2' dv p2 => ?_⟩
      have Wb : Wd K H0 P2 (T27 K T.C_Kettles T.C_Kettle nms b A Bk c1 o1 (m + 40 * t + 40) S (kstep nms D S1).1 cs cw (cs - S1.sug nms) (cw - S1.wtr nms - S1.gone)) := Wa.upd (i := 3) (t' := tKe K T.C_Kettles T.C_Kettle A nms (kstep nms D S1).1) rfl p2 (fun c r => .inl r) k2' fun c r => .inl r
      have hd2 := hd.tk p2.tk
      have ga2 := hga.tk p2.tk
      have bg := J.big (show t ≤ 400 by omega)
      have J' : J27 nms (t + 1) S (kstep nms D S1).1 cs cw := J.on (by omega) ok
      have bgn := J'.big (show t + 1 ≤ 400 by omega)
      obtain ⟨M', L', N', n', _, okk', _⟩ := J.inv.get (show t ≤ 400 by omega)
      rcases kstep_told nd J.inv (show t ≤ 400 by omega) ok with ⟨es, wd, dd, er⟩ | ⟨dd, er, kt⟩
      case' inl =>
        rw [er] at dv
        obtain ⟨va, rfl⟩ := dv.ref
        obtain ⟨vxs, v1, v2⟩ := dv.tupI
        obtain ⟨w1, xs1, hd1⟩ := hd2.fst
        obtain ⟨r1, ys1, v3, hr1⟩ : ∃ (r1 : Str) (ys1 : List V), SqT K P2 va (.str r1 :: ys1) ∧ r1 ≠ "told" := by
          cases vxs with
          | nil => exact absurd v2.1 (by simp)
          | cons u us =>
            have := (v2.2 0 u _ rfl rfl).strI
            rw [this] at v1
            exact ⟨_, _, v1, by decide +kernel⟩
        refine if_two rfl v3 rfl hd1 (fun e1 _ => absurd e1 hr1) fun _ => if_two rfl v3 rfl hd1 (fun e1 _ => absurd e1 hr1) fun _ => if_two rfl v3 rfl hd1 (fun e1 _ => absurd e1 hr1) fun _ => ?_
        rw [es] at Wb J'
        exact tail27 T (Wb.ok 3 _ rfl) (Wb.ok 2 _ rfl) J' (by omega) tr (Wb.ok 1 _ rfl) (Wb.ok 0 _ rfl) hd1 ga2 bg.b8 (.inr rfl) fun H' s' => ⟨_, _, _, _, S1, c1, o1, cs, cw, rfl, (Wb.same s').boxO (i := 4) rfl .refl (BoxAt.mono ((Wb.same s').ok 4 _ rfl) (by omega)), J'⟩
      rw [er] at dv
      obtain ⟨va, rfl⟩ := dv.ref
      obtain ⟨vxs, v1, v2⟩ := dv.tupI
      obtain ⟨vs0, vs1, rfl, dt0, dt1⟩ := v2.two
      have := dt0.strI
      subst this
      generalize hS2 : (kstep nms D S1).1 = S2 at Wb J' bgn kt
      have same : S2.sug nms = S1.sug nms → S2.wtr nms + S2.gone = S1.wtr nms + S1.gone → Wd K H0 P2 (T27 K T.C_Kettles T.C_Kettle nms b A Bk c1 o1 (m + 40 * t + 40) S S2 cs cw (cs - S2.sug nms) (cw - S2.wtr nms - S2.gone)) := fun e1 e2 => by
        rw [e1, show cw - S2.wtr nms - S2.gone = cw - S1.wtr nms - S1.gone by grind]
        exact Wb
      cases kt with
      | boil es ew eg =>
        refine if_two rfl v1 rfl hd2 (fun _ e2 => absurd e2 (by decide +kernel)) fun _ => if_two rfl v1 rfl hd2 (fun _ e2 => absurd e2 (by decide +kernel)) fun _ => if_two rfl v1 rfl hd2 (fun _ e2 => absurd e2 (by decide +kernel)) fun _ => ?_
        have Wc := same es ew
        exact tail27 T (Wc.ok 3 _ rfl) (Wc.ok 2 _ rfl) J' (by omega) tr (Wc.ok 1 _ rfl) (Wc.ok 0 _ rfl) hd2 ga2 bg.b8 (.inl ⟨rfl, eg⟩) fun H' s' => ⟨_, _, _, _, S2, c1, o1, cs, cw, rfl, (Wc.same s').boxO (i := 4) rfl .refl (BoxAt.mono ((Wc.same s').ok 4 _ rfl) (by omega)), J'⟩
      | ladle es ew eg =>
        obtain ⟨_, hd3, _⟩ := hd2
        refine if_two rfl v1 rfl hd3 (fun _ e2 => absurd e2 (by decide +kernel)) fun _ => if_two rfl v1 rfl hd3 (fun _ e2 => absurd e2 (by decide +kernel)) fun _ => if_two rfl v1 rfl hd3 (fun _ e2 => absurd e2 (by decide +kernel)) fun _ => ?_
        have Wc := same es (by rw [ew, eg])
        exact tail27 T (Wc.ok 3 _ rfl) (Wc.ok 2 _ rfl) J' (by omega) tr (Wc.ok 1 _ rfl) (Wc.ok 0 _ rfl) hd3 ga2 bg.b8 (.inr eg) fun H' s' => ⟨_, _, _, _, S2, c1, o1, cs, cw, rfl, (Wc.same s').boxO (i := 4) rfl .refl (BoxAt.mono ((Wc.same s').ok 4 _ rfl) (by omega)), J'⟩
      | stop es ew eg =>
        refine if_two rfl v1 rfl hd2 (fun _ e2 => absurd e2 (by decide +kernel)) fun _ => if_two rfl v1 rfl hd2 (fun _ e2 => absurd e2 (by decide +kernel)) fun _ => if_two rfl v1 rfl hd2 (fun _ e2 => absurd e2 (by decide +kernel)) fun _ => ?_
        have Wc := same es (by rw [ew, eg])
        exact tail27 T (Wc.ok 3 _ rfl) (Wc.ok 2 _ rfl) J' (by omega) tr (Wc.ok 1 _ rfl) (Wc.ok 0 _ rfl) hd2 ga2 bg.b8 (.inr eg) fun H' s' => ⟨_, _, _, _, S2, c1, o1, cs, cw, rfl, (Wc.same s').boxO (i := 4) rfl .refl (BoxAt.mono ((Wc.same s').ok 4 _ rfl) (by omega)), J'⟩
      | start es ew eg =>
        refine if_two rfl v1 rfl hd2 (fun _ e2 => absurd e2 (by decide +kernel)) fun _ => if_two rfl v1 rfl hd2 (fun _ e2 => absurd e2 (by decide +kernel)) fun _ => if_two rfl v1 rfl hd2 (fun _ e2 => absurd e2 (by decide +kernel)) fun _ => ?_
        have Wc := same es (by rw [ew, eg])
        exact tail27 T (Wc.ok 3 _ rfl) (Wc.ok 2 _ rfl) J' (by omega) tr (Wc.ok 1 _ rfl) (Wc.ok 0 _ rfl) hd2 ga2 bg.b8 (.inr eg) fun H' s' => ⟨_, _, _, _, S2, c1, o1, cs, cw, rfl, (Wc.same s').boxO (i := 4) rfl .refl (BoxAt.mono ((Wc.same s').ok 4 _ rfl) (by omega)), J'⟩
      | @pour x s w _ hx nf es ew eg =>
        obtain ⟨pj, hd3, hj⟩ := hd2
        obtain ⟨pb, psd, pwd⟩ := pour_dv J.inv (show t ≤ 400 by omega) hx nf fun S3 e => okA S3 fun y hy => (e y hy).trans (J.mr y)
        have pwd' : ∀ L : Nat, (∀ y ∈ nms, (S.st y).mark.num.natAbs ∣ L) → Dv (B60 * L) w := fun L hL => pwd L fun y hy => by rw [J.mr y]; exact hL y hy
        have J2 : J27 nms (t + 1) S S2 (cs + s) (cw + w) := by rw [← hS2]; exact J.in_ (by omega) ok pb psd pwd'
        have bs : Big s := (show In N' 1000000 s from ⟨psd.up (Nat.dvd_trans ‹B60 ∣ M'› n'.dm), by have := pb.1; grind, pb.2.1⟩).big n' (by decide +kernel)
        have bw : Big w := (show In N' 1000000 w from ⟨(pwd L' fun y hy => (okk' y hy).ml).up (Nat.dvd_trans (Nat.mul_dvd_mul_right ‹B60 ∣ M'› L') n'.dml), by have := pb.2.2.1; grind, pb.2.2.2⟩).big n' (by decide +kernel)
        refine if_two rfl v1 rfl hd3 (fun _ _ => ?_) (fun z => absurd ⟨rfl, rfl⟩ z)
        refine ⟨_, rfl, _, rfl, d, _, 2, _, rfl, rfl, hd3, at2, c1, pj, cs, cw, s, w, rfl, Wb.ok 1 _ rfl, hj, bg.b1, bg.b2, bs, bw, fun c2 P3 sP nP l2 => ?_⟩
        have Wc : Wd K H0 P3 (T27 K T.C_Kettles T.C_Kettle nms b A Bk c2 o1 (m + 40 * t + 40) S S2 (cs + s) (cw + w) ((cs + s) - S2.sug nms) ((cw + w) - S2.wtr nms - S2.gone)) := by
          rw [es, ew, eg, show (cs + s) - (S1.sug nms + s) = cs - S1.sug nms by grind, show (cw + w) - (S1.wtr nms + w) - S1.gone = cw - S1.wtr nms - S1.gone by grind]
          exact Wb.upd (i := 1) (t' := tL2 K c2 (cs + s) (cw + w)) (R := fun _ => False) rfl (.same sP) (fun _ z => z.elim) l2 fun z e => .inr (by rw [show z = c2 from e]; exact .of nP)
        have hd4 := Same.tup sP hd3
        have v4 := Same.tup sP v1
        refine if_two rfl v4 rfl hd4 (fun _ e2 => absurd e2 (by decide +kernel)) fun _ => if_two rfl v4 rfl hd4 (fun _ e2 => absurd e2 (by decide +kernel)) fun _ => ?_
        exact tail27 T (Wc.ok 3 _ rfl) (Wc.ok 2 _ rfl) J2 (by omega) tr (Wc.ok 1 _ rfl) (Wc.ok 0 _ rfl) hd4 (ga2.same sP) bg.b8 (.inr eg) fun H' s' => ⟨_, _, _, _, S2, c2, o1, cs + s, cw + w, rfl, (Wc.same s').boxO (i := 4) rfl .refl (BoxAt.mono ((Wc.same s').ok 4 _ rfl) (by omega)), J2⟩
      | @dip x ht qa qb ba bb es ew eg =>
        obtain ⟨pj, hd3, hj⟩ := hd2
        obtain ⟨ju, rfl, hju⟩ := dt1.ju
        refine if_two rfl v1 rfl hd3 (fun _ e2 => absurd e2 (by decide +kernel)) fun _ => if_two rfl v1 rfl hd3 (fun _ _ => ?_) (fun z => absurd ⟨rfl, rfl⟩ z)
        refine ⟨_, rfl, _, rfl, va, _, 1, _, rfl, rfl, v1, at1, o1, ju, _, _, qa, qb, rfl, Wb.ok 0 _ rfl, hju, bg.b3, bg.b4, ba, bb, fun c2 P3 sP nP l2 => ?_⟩
        have Wc : Wd K H0 P3 (T27 K T.C_Kettles T.C_Kettle nms b A Bk c1 c2 (m + 40 * t + 40) S S2 cs cw (cs - S2.sug nms) (cw - S2.wtr nms - S2.gone)) := by
          rw [es, ew, eg, show cs - (S1.sug nms - qa) = cs - S1.sug nms + qa by grind, show cw - (S1.wtr nms - qb) - S1.gone = cw - S1.wtr nms - S1.gone + qb by grind]
          exact Wb.upd (i := 0) (t' := tL2 K c2 _ _) (R := fun _ => False) rfl (.same sP) (fun _ z => z.elim) l2 fun z e => .inr (by rw [show z = c2 from e]; exact .of nP)
        have hd4 := Same.tup sP hd3
        have v4 := Same.tup sP v1
        refine if_two rfl v4 rfl hd4 (fun _ e2 => absurd e2 (by decide +kernel)) fun _ => ?_
        exact tail27 T (Wc.ok 3 _ rfl) (Wc.ok 2 _ rfl) J' (by omega) tr (Wc.ok 1 _ rfl) (Wc.ok 0 _ rfl) hd4 (ga2.same sP) bg.b8 (.inr eg) fun H' s' => ⟨_, _, _, _, S2, c1, c2, cs, cw, rfl, (Wc.same s').boxO (i := 4) rfl .refl (BoxAt.mono ((Wc.same s').ok 4 _ rfl) (by omega)), J'⟩
      | @skim x y ht g qa qb pp ba bb es ew eg =>
        obtain ⟨pj, pj2, hd3, hj⟩ := hd2
        obtain ⟨tz, rfl⟩ := dt1.ref
        obtain ⟨txs, u1, u2⟩ := dt1.tupI
        obtain ⟨us0, us1, rfl, du0, du1⟩ := u2.two
        obtain ⟨ju, rfl, hju⟩ := du1.ju
        refine if_two rfl v1 rfl hd3 (fun _ e2 => absurd e2 (by decide +kernel)) fun _ => if_two rfl v1 rfl hd3 (fun _ e2 => absurd e2 (by decide +kernel)) fun _ => if_two rfl v1 rfl hd3 (fun _ _ => ?_) (fun z => absurd ⟨rfl, rfl⟩ z)
        refine ⟨_, rfl, _, rfl, va, _, 1, _, rfl, rfl, v1, at1, tz, _, 1, _, rfl, rfl, u1, at1, o1, ju, _, _, qa, qb, rfl, Wb.ok 0 _ rfl, hju, bg.b3, bg.b4, ba, bb, fun c2 P3 sP nP l2 => ?_⟩
        have Wc : Wd K H0 P3 (T27 K T.C_Kettles T.C_Kettle nms b A Bk c1 c2 (m + 40 * t + 40) S S2 cs cw (cs - S2.sug nms) (cw - S2.wtr nms - S2.gone)) := by
          rw [es, ew, eg, show cs - (S1.sug nms - qa) = cs - S1.sug nms + qa by grind, show cw - (S1.wtr nms - qb) - S1.gone = cw - S1.wtr nms - S1.gone + qb by grind]
          exact Wb.upd (i := 0) (t' := tL2 K c2 _ _) (R := fun _ => False) rfl (.same sP) (fun _ z => z.elim) l2 fun z e => .inr (by rw [show z = c2 from e]; exact .of nP)
        have hd4 := Same.tup sP hd3
        exact tail27 T (Wc.ok 3 _ rfl) (Wc.ok 2 _ rfl) J' (by omega) tr (Wc.ok 1 _ rfl) (Wc.ok 0 _ rfl) hd4 (ga2.same sP) bg.b8 (.inr eg) fun H' s' => ⟨_, _, _, _, S2, c1, c2, cs, cw, rfl, (Wc.same s').boxO (i := 4) rfl .refl (BoxAt.mono ((Wc.same s').ok 4 _ rfl) (by omega)), J'⟩
  in #guard_msgs (pass all) in example : True := trivial

end
end KR
namespace KR
open PySem PySem.Spec PyProof.Rows L2
set_option Elab.async true in
theorem all_mk {l : PySem.W.OpenLaw} {w : World} {K : PySem.W.Frag} {h : Heap} {mg : Str → Option Value} {fa : Addr} (X : K.In h) (G : h.Ns mainGlobals mg) (hfa : mg "law" = some (.ref fa))
    {C_Row : Addr} (g_Row : PySem.W.nsIn K mainGlobals "Row" = some (some (.ref C_Row))) (pg_Row : PySem.W.plainGet K C_Row Str.empty = true) (hd_Row : PySem.W.hasDictIn K C_Row = true) (po_Row : PySem.W.plainOver K C_Row = true) (sa_Row : PySem.W.findIn K (.ref C_Row) "__setattr__" = some (some (.builtin "object.__setattr__"))) (mk_Row : PySem.W.makesIn K C_Row = true) (kc_Row : PySem.W.keepIn K (.ref C_Row) = true)
    (nf_Row_kettles : PySem.W.findIn K (.ref C_Row) "kettles" = some none)
    (nf_Row_moulds : PySem.W.findIn K (.ref C_Row) "moulds" = some none)
    {C_SameRow : Addr} (g_SameRow : PySem.W.nsIn K mainGlobals "SameRow" = some (some (.ref C_SameRow))) (pg_SameRow : PySem.W.plainGet K C_SameRow Str.empty = true) (hd_SameRow : PySem.W.hasDictIn K C_SameRow = true) (po_SameRow : PySem.W.plainOver K C_SameRow = true) (sa_SameRow : PySem.W.findIn K (.ref C_SameRow) "__setattr__" = some (some (.builtin "object.__setattr__"))) (mk_SameRow : PySem.W.makesIn K C_SameRow = true) (kc_SameRow : PySem.W.keepIn K (.ref C_SameRow) = true)
    (nf_SameRow_kettles : PySem.W.findIn K (.ref C_SameRow) "kettles" = some none)
    (nf_SameRow_moulds : PySem.W.findIn K (.ref C_SameRow) "moulds" = some none)
    {C_Kettle : Addr} (g_Kettle : PySem.W.nsIn K mainGlobals "Kettle" = some (some (.ref C_Kettle))) (pg_Kettle : PySem.W.plainGet K C_Kettle Str.empty = true) (hd_Kettle : PySem.W.hasDictIn K C_Kettle = true) (po_Kettle : PySem.W.plainOver K C_Kettle = true) (sa_Kettle : PySem.W.findIn K (.ref C_Kettle) "__setattr__" = some (some (.builtin "object.__setattr__"))) (mk_Kettle : PySem.W.makesIn K C_Kettle = true) (kc_Kettle : PySem.W.keepIn K (.ref C_Kettle) = true)
    (nf_Kettle_room : PySem.W.findIn K (.ref C_Kettle) "room" = some none)
    (nf_Kettle_fire : PySem.W.findIn K (.ref C_Kettle) "fire" = some none)
    (nf_Kettle_mark : PySem.W.findIn K (.ref C_Kettle) "mark" = some none)
    (nf_Kettle_juice : PySem.W.findIn K (.ref C_Kettle) "juice" = some none)
    (nf_Kettle_at_work : PySem.W.findIn K (.ref C_Kettle) "at_work" = some none)
    {C_Kettles : Addr} (g_Kettles : PySem.W.nsIn K mainGlobals "Kettles" = some (some (.ref C_Kettles))) (pg_Kettles : PySem.W.plainGet K C_Kettles Str.empty = true) (hd_Kettles : PySem.W.hasDictIn K C_Kettles = true) (po_Kettles : PySem.W.plainOver K C_Kettles = true) (sa_Kettles : PySem.W.findIn K (.ref C_Kettles) "__setattr__" = some (some (.builtin "object.__setattr__"))) (mk_Kettles : PySem.W.makesIn K C_Kettles = true) (kc_Kettles : PySem.W.keepIn K (.ref C_Kettles) = true)
    (nf_Kettles__row : PySem.W.findIn K (.ref C_Kettles) "_row" = some none)
    (nf_Kettles__table : PySem.W.findIn K (.ref C_Kettles) "_table" = some none)
    (nf_Kettles__hour : PySem.W.findIn K (.ref C_Kettles) "_hour" = some none)
    (nf_Kettles__boiled : PySem.W.findIn K (.ref C_Kettles) "_boiled" = some none)
    {od0 an0 : Option Addr} {sl0 : Array (Option Value)} {oc0 kV0 dc0 pm0 cd0 ct0 : Value} {f0 : Addr}
    (a0 : PySem.W.findIn K (.ref C_Kettles) "_named" = some (some (.ref f0))) (l0 : K.lookup f0 = some ⟨oc0, od0, .func (PySem.W.fnOf "_named" "Kettles._named" (defArgs s_Kettles__named) (defBody s_Kettles__named) (defScope s_Kettles__named) .none kV0 dc0 pm0 an0 cd0 ct0), sl0⟩) (c0 : PySem.W.codeIn K cd0 "Kettles._named" = true) (k0 : PySem.W.keepIn K (.ref f0) = true) (i0 : PySem.W.isFn K (.ref f0) = true)
    {od1 an1 : Option Addr} {sl1 : Array (Option Value)} {oc1 kV1 dc1 pm1 cd1 ct1 : Value} {f1 : Addr}
    (a1 : PySem.W.findIn K (.ref C_Kettles) "boiled_off" = some (some (.ref f1))) (l1 : K.lookup f1 = some ⟨oc1, od1, .func (PySem.W.fnOf "boiled_off" "Kettles.boiled_off" (defArgs s_Kettles_boiled_off) (defBody s_Kettles_boiled_off) (defScope s_Kettles_boiled_off) .none kV1 dc1 pm1 an1 cd1 ct1), sl1⟩) (c1 : PySem.W.codeIn K cd1 "Kettles.boiled_off" = true) (k1 : PySem.W.keepIn K (.ref f1) = true) (i1 : PySem.W.isFn K (.ref f1) = true)
    {od2 an2 : Option Addr} {sl2 : Array (Option Value)} {oc2 kV2 dc2 pm2 cd2 ct2 : Value} {f2 : Addr}
    (a2 : PySem.W.findIn K (.ref C_Kettles) "juice_of" = some (some (.ref f2))) (l2 : K.lookup f2 = some ⟨oc2, od2, .func (PySem.W.fnOf "juice_of" "Kettles.juice_of" (defArgs s_Kettles_juice_of) (defBody s_Kettles_juice_of) (defScope s_Kettles_juice_of) .none kV2 dc2 pm2 an2 cd2 ct2), sl2⟩) (c2 : PySem.W.codeIn K cd2 "Kettles.juice_of" = true) (k2 : PySem.W.keepIn K (.ref f2) = true) (i2 : PySem.W.isFn K (.ref f2) = true)
    {od3 an3 : Option Addr} {sl3 : Array (Option Value)} {oc3 kV3 dc3 pm3 cd3 ct3 : Value} {f3 : Addr}
    (a3 : PySem.W.findIn K (.ref C_Kettles) "start" = some (some (.ref f3))) (l3 : K.lookup f3 = some ⟨oc3, od3, .func (PySem.W.fnOf "start" "Kettles.start" (defArgs s_Kettles_start) (defBody s_Kettles_start) (defScope s_Kettles_start) .none kV3 dc3 pm3 an3 cd3 ct3), sl3⟩) (c3 : PySem.W.codeIn K cd3 "Kettles.start" = true) (k3 : PySem.W.keepIn K (.ref f3) = true) (i3 : PySem.W.isFn K (.ref f3) = true)
    {od4 an4 : Option Addr} {sl4 : Array (Option Value)} {oc4 kV4 dc4 pm4 cd4 ct4 : Value} {f4 : Addr}
    (a4 : PySem.W.findIn K (.ref C_Kettles) "stop" = some (some (.ref f4))) (l4 : K.lookup f4 = some ⟨oc4, od4, .func (PySem.W.fnOf "stop" "Kettles.stop" (defArgs s_Kettles_stop) (defBody s_Kettles_stop) (defScope s_Kettles_stop) .none kV4 dc4 pm4 an4 cd4 ct4), sl4⟩) (c4 : PySem.W.codeIn K cd4 "Kettles.stop" = true) (k4 : PySem.W.keepIn K (.ref f4) = true) (i4 : PySem.W.isFn K (.ref f4) = true)
    {od5 an5 : Option Addr} {sl5 : Array (Option Value)} {oc5 kV5 dc5 pm5 cd5 ct5 : Value} {f5 : Addr}
    (a5 : PySem.W.findIn K (.ref C_Kettles) "skim" = some (some (.ref f5))) (l5 : K.lookup f5 = some ⟨oc5, od5, .func (PySem.W.fnOf "skim" "Kettles.skim" (defArgs s_Kettles_skim) (defBody s_Kettles_skim) (defScope s_Kettles_skim) .none kV5 dc5 pm5 an5 cd5 ct5), sl5⟩) (c5 : PySem.W.codeIn K cd5 "Kettles.skim" = true) (k5 : PySem.W.keepIn K (.ref f5) = true) (i5 : PySem.W.isFn K (.ref f5) = true)
    {od6 an6 : Option Addr} {sl6 : Array (Option Value)} {oc6 kV6 dc6 pm6 cd6 ct6 : Value} {f6 : Addr}
    (a6 : PySem.W.findIn K (.ref C_Kettles) "ladle" = some (some (.ref f6))) (l6 : K.lookup f6 = some ⟨oc6, od6, .func (PySem.W.fnOf "ladle" "Kettles.ladle" (defArgs s_Kettles_ladle) (defBody s_Kettles_ladle) (defScope s_Kettles_ladle) .none kV6 dc6 pm6 an6 cd6 ct6), sl6⟩) (c6 : PySem.W.codeIn K cd6 "Kettles.ladle" = true) (k6 : PySem.W.keepIn K (.ref f6) = true) (i6 : PySem.W.isFn K (.ref f6) = true)
    {od7 an7 : Option Addr} {sl7 : Array (Option Value)} {oc7 kV7 dc7 pm7 cd7 ct7 : Value} {f7 : Addr}
    (a7 : PySem.W.findIn K (.ref C_Kettles) "take_out" = some (some (.ref f7))) (l7 : K.lookup f7 = some ⟨oc7, od7, .func (PySem.W.fnOf "take_out" "Kettles.take_out" (defArgs s_Kettles_take_out) (defBody s_Kettles_take_out) (defScope s_Kettles_take_out) .none kV7 dc7 pm7 an7 cd7 ct7), sl7⟩) (c7 : PySem.W.codeIn K cd7 "Kettles.take_out" = true) (k7 : PySem.W.keepIn K (.ref f7) = true) (i7 : PySem.W.isFn K (.ref f7) = true)
    {od8 an8 : Option Addr} {sl8 : Array (Option Value)} {oc8 kV8 dc8 pm8 cd8 ct8 : Value} {f8 : Addr}
    (a8 : PySem.W.findIn K (.ref C_Kettles) "dip" = some (some (.ref f8))) (l8 : K.lookup f8 = some ⟨oc8, od8, .func (PySem.W.fnOf "dip" "Kettles.dip" (defArgs s_Kettles_dip) (defBody s_Kettles_dip) (defScope s_Kettles_dip) .none kV8 dc8 pm8 an8 cd8 ct8), sl8⟩) (c8 : PySem.W.codeIn K cd8 "Kettles.dip" = true) (k8 : PySem.W.keepIn K (.ref f8) = true) (i8 : PySem.W.isFn K (.ref f8) = true)
    {od9 an9 : Option Addr} {sl9 : Array (Option Value)} {oc9 kV9 dc9 pm9 cd9 ct9 : Value} {f9 : Addr}
    (a9 : PySem.W.findIn K (.ref C_Kettles) "pour" = some (some (.ref f9))) (l9 : K.lookup f9 = some ⟨oc9, od9, .func (PySem.W.fnOf "pour" "Kettles.pour" (defArgs s_Kettles_pour) (defBody s_Kettles_pour) (defScope s_Kettles_pour) .none kV9 dc9 pm9 an9 cd9 ct9), sl9⟩) (c9 : PySem.W.codeIn K cd9 "Kettles.pour" = true) (k9 : PySem.W.keepIn K (.ref f9) = true) (i9 : PySem.W.isFn K (.ref f9) = true)
    {od10 an10 : Option Addr} {sl10 : Array (Option Value)} {oc10 kV10 dc10 pm10 cd10 ct10 : Value} {f10 : Addr}
    (a10 : PySem.W.findIn K (.ref C_Kettles) "boil_on" = some (some (.ref f10))) (l10 : K.lookup f10 = some ⟨oc10, od10, .func (PySem.W.fnOf "boil_on" "Kettles.boil_on" (defArgs s_Kettles_boil_on) (defBody s_Kettles_boil_on) (defScope s_Kettles_boil_on) .none kV10 dc10 pm10 an10 cd10 ct10), sl10⟩) (c10 : PySem.W.codeIn K cd10 "Kettles.boil_on" = true) (k10 : PySem.W.keepIn K (.ref f10) = true) (i10 : PySem.W.isFn K (.ref f10) = true)
    {od11 an11 : Option Addr} {sl11 : Array (Option Value)} {oc11 kV11 dc11 pm11 cd11 ct11 : Value} {f11 : Addr}
    (a11 : PySem.W.findIn K (.ref C_Kettles) "__init__" = some (some (.ref f11))) (l11 : K.lookup f11 = some ⟨oc11, od11, .func (PySem.W.fnOf "__init__" "Kettles.__init__" (defArgs s_Kettles_init) (defBody s_Kettles_init) (defScope s_Kettles_init) .none kV11 dc11 pm11 an11 cd11 ct11), sl11⟩) (c11 : PySem.W.codeIn K cd11 "Kettles.__init__" = true) (k11 : PySem.W.keepIn K (.ref f11) = true) (i11 : PySem.W.isFn K (.ref f11) = true)
    {od12 an12 : Option Addr} {sl12 : Array (Option Value)} {oc12 kV12 dc12 pm12 cd12 ct12 : Value} {f12 : Addr}
    (a12 : PySem.W.findIn K (.ref C_Kettle) "boil" = some (some (.ref f12))) (l12 : K.lookup f12 = some ⟨oc12, od12, .func (PySem.W.fnOf "boil" "Kettle.boil" (defArgs s_Kettle_boil) (defBody s_Kettle_boil) (defScope s_Kettle_boil) .none kV12 dc12 pm12 an12 cd12 ct12), sl12⟩) (c12 : PySem.W.codeIn K cd12 "Kettle.boil" = true) (k12 : PySem.W.keepIn K (.ref f12) = true) (i12 : PySem.W.isFn K (.ref f12) = true)
    {od13 an13 : Option Addr} {sl13 : Array (Option Value)} {oc13 kV13 dc13 pm13 cd13 ct13 : Value} {f13 : Addr}
    (a13 : PySem.W.findIn K (.ref C_Kettle) "__init__" = some (some (.ref f13))) (l13 : K.lookup f13 = some ⟨oc13, od13, .func (PySem.W.fnOf "__init__" "Kettle.__init__" (defArgs s_Kettle_init) (defBody s_Kettle_init) (defScope s_Kettle_init) .none kV13 dc13 pm13 an13 cd13 ct13), sl13⟩) (c13 : PySem.W.codeIn K cd13 "Kettle.__init__" = true) (k13 : PySem.W.keepIn K (.ref f13) = true) (i13 : PySem.W.isFn K (.ref f13) = true)
    {od14 an14 : Option Addr} {sl14 : Array (Option Value)} {oc14 kV14 dc14 pm14 cd14 ct14 : Value} {f14 : Addr}
    (a14 : PySem.W.findIn K (.ref C_SameRow) "__init__" = some (some (.ref f14))) (l14 : K.lookup f14 = some ⟨oc14, od14, .func (PySem.W.fnOf "__init__" "SameRow.__init__" (defArgs s_SameRow_init) (defBody s_SameRow_init) (defScope s_SameRow_init) .none kV14 dc14 pm14 an14 cd14 ct14), sl14⟩) (c14 : PySem.W.codeIn K cd14 "SameRow.__init__" = true) (k14 : PySem.W.keepIn K (.ref f14) = true) (i14 : PySem.W.isFn K (.ref f14) = true)
    {od15 an15 : Option Addr} {sl15 : Array (Option Value)} {oc15 kV15 dc15 pm15 cd15 ct15 : Value} {f15 : Addr}
    (a15 : PySem.W.findIn K (.ref C_Row) "__init__" = some (some (.ref f15))) (l15 : K.lookup f15 = some ⟨oc15, od15, .func (PySem.W.fnOf "__init__" "Row.__init__" (defArgs s_Row_init) (defBody s_Row_init) (defScope s_Row_init) .none kV15 dc15 pm15 an15 cd15 ct15), sl15⟩) (c15 : PySem.W.codeIn K cd15 "Row.__init__" = true) (k15 : PySem.W.keepIn K (.ref f15) = true) (i15 : PySem.W.isFn K (.ref f15) = true)
    {od16 an16 : Option Addr} {sl16 : Array (Option Value)} {oc16 kV16 dc16 pm16 cd16 ct16 : Value} {f16 : Addr}
    (a16 : PySem.W.nsIn K mainGlobals "is_number" = some (some (.ref f16))) (l16 : K.lookup f16 = some ⟨oc16, od16, .func (PySem.W.fnOf "is_number" "is_number" (defArgs s_p_is_number) (defBody s_p_is_number) (defScope s_p_is_number) .none kV16 dc16 pm16 an16 cd16 ct16), sl16⟩) (c16 : PySem.W.codeIn K cd16 "is_number" = true) (k16 : PySem.W.keepIn K (.ref f16) = true)
    {od17 an17 : Option Addr} {sl17 : Array (Option Value)} {oc17 kV17 dc17 pm17 cd17 ct17 : Value} {f17 : Addr}
    (a17 : PySem.W.nsIn K mainGlobals "is_number_within" = some (some (.ref f17))) (l17 : K.lookup f17 = some ⟨oc17, od17, .func (PySem.W.fnOf "is_number_within" "is_number_within" (defArgs s_p_is_number_within) (defBody s_p_is_number_within) (defScope s_p_is_number_within) .none kV17 dc17 pm17 an17 cd17 ct17), sl17⟩) (c17 : PySem.W.codeIn K cd17 "is_number_within" = true) (k17 : PySem.W.keepIn K (.ref f17) = true)
    {od18 an18 : Option Addr} {sl18 : Array (Option Value)} {oc18 kV18 dc18 pm18 cd18 ct18 : Value} {f18 : Addr}
    (a18 : PySem.W.nsIn K mainGlobals "is_frac" = some (some (.ref f18))) (l18 : K.lookup f18 = some ⟨oc18, od18, .func (PySem.W.fnOf "is_frac" "is_frac" (defArgs s_p_is_frac) (defBody s_p_is_frac) (defScope s_p_is_frac) .none kV18 dc18 pm18 an18 cd18 ct18), sl18⟩) (c18 : PySem.W.codeIn K cd18 "is_frac" = true) (k18 : PySem.W.keepIn K (.ref f18) = true)
    {od19 an19 : Option Addr} {sl19 : Array (Option Value)} {oc19 kV19 dc19 pm19 cd19 ct19 : Value} {f19 : Addr}
    (a19 : PySem.W.nsIn K mainGlobals "frac_of" = some (some (.ref f19))) (l19 : K.lookup f19 = some ⟨oc19, od19, .func (PySem.W.fnOf "frac_of" "frac_of" (defArgs s_p_frac_of) (defBody s_p_frac_of) (defScope s_p_frac_of) .none kV19 dc19 pm19 an19 cd19 ct19), sl19⟩) (c19 : PySem.W.codeIn K cd19 "frac_of" = true) (k19 : PySem.W.keepIn K (.ref f19) = true)
    {od20 an20 : Option Addr} {sl20 : Array (Option Value)} {oc20 kV20 dc20 pm20 cd20 ct20 : Value} {f20 : Addr}
    (a20 : PySem.W.nsIn K mainGlobals "sum_of" = some (some (.ref f20))) (l20 : K.lookup f20 = some ⟨oc20, od20, .func (PySem.W.fnOf "sum_of" "sum_of" (defArgs s_p_sum_of) (defBody s_p_sum_of) (defScope s_p_sum_of) .none kV20 dc20 pm20 an20 cd20 ct20), sl20⟩) (c20 : PySem.W.codeIn K cd20 "sum_of" = true) (k20 : PySem.W.keepIn K (.ref f20) = true)
    {od21 an21 : Option Addr} {sl21 : Array (Option Value)} {oc21 kV21 dc21 pm21 cd21 ct21 : Value} {f21 : Addr}
    (a21 : PySem.W.nsIn K mainGlobals "difference" = some (some (.ref f21))) (l21 : K.lookup f21 = some ⟨oc21, od21, .func (PySem.W.fnOf "difference" "difference" (defArgs s_p_difference) (defBody s_p_difference) (defScope s_p_difference) .none kV21 dc21 pm21 an21 cd21 ct21), sl21⟩) (c21 : PySem.W.codeIn K cd21 "difference" = true) (k21 : PySem.W.keepIn K (.ref f21) = true)
    {od22 an22 : Option Addr} {sl22 : Array (Option Value)} {oc22 kV22 dc22 pm22 cd22 ct22 : Value} {f22 : Addr}
    (a22 : PySem.W.nsIn K mainGlobals "product" = some (some (.ref f22))) (l22 : K.lookup f22 = some ⟨oc22, od22, .func (PySem.W.fnOf "product" "product" (defArgs s_p_product) (defBody s_p_product) (defScope s_p_product) .none kV22 dc22 pm22 an22 cd22 ct22), sl22⟩) (c22 : PySem.W.codeIn K cd22 "product" = true) (k22 : PySem.W.keepIn K (.ref f22) = true)
    {od23 an23 : Option Addr} {sl23 : Array (Option Value)} {oc23 kV23 dc23 pm23 cd23 ct23 : Value} {f23 : Addr}
    (a23 : PySem.W.nsIn K mainGlobals "is_lesser" = some (some (.ref f23))) (l23 : K.lookup f23 = some ⟨oc23, od23, .func (PySem.W.fnOf "is_lesser" "is_lesser" (defArgs s_p_is_lesser) (defBody s_p_is_lesser) (defScope s_p_is_lesser) .none kV23 dc23 pm23 an23 cd23 ct23), sl23⟩) (c23 : PySem.W.codeIn K cd23 "is_lesser" = true) (k23 : PySem.W.keepIn K (.ref f23) = true)
    {od24 an24 : Option Addr} {sl24 : Array (Option Value)} {oc24 kV24 dc24 pm24 cd24 ct24 : Value} {f24 : Addr}
    (a24 : PySem.W.nsIn K mainGlobals "mixed" = some (some (.ref f24))) (l24 : K.lookup f24 = some ⟨oc24, od24, .func (PySem.W.fnOf "mixed" "mixed" (defArgs s_p_mixed) (defBody s_p_mixed) (defScope s_p_mixed) .none kV24 dc24 pm24 an24 cd24 ct24), sl24⟩) (c24 : PySem.W.codeIn K cd24 "mixed" = true) (k24 : PySem.W.keepIn K (.ref f24) = true)
    {od25 an25 : Option Addr} {sl25 : Array (Option Value)} {oc25 kV25 dc25 pm25 cd25 ct25 : Value} {f25 : Addr}
    (a25 : PySem.W.nsIn K mainGlobals "share_of" = some (some (.ref f25))) (l25 : K.lookup f25 = some ⟨oc25, od25, .func (PySem.W.fnOf "share_of" "share_of" (defArgs s_p_share_of) (defBody s_p_share_of) (defScope s_p_share_of) .none kV25 dc25 pm25 an25 cd25 ct25), sl25⟩) (c25 : PySem.W.codeIn K cd25 "share_of" = true) (k25 : PySem.W.keepIn K (.ref f25) = true)
    {od26 an26 : Option Addr} {sl26 : Array (Option Value)} {oc26 kV26 dc26 pm26 cd26 ct26 : Value} {f26 : Addr}
    (a26 : PySem.W.nsIn K mainGlobals "rest_of" = some (some (.ref f26))) (l26 : K.lookup f26 = some ⟨oc26, od26, .func (PySem.W.fnOf "rest_of" "rest_of" (defArgs s_p_rest_of) (defBody s_p_rest_of) (defScope s_p_rest_of) .none kV26 dc26 pm26 an26 cd26 ct26), sl26⟩) (c26 : PySem.W.codeIn K cd26 "rest_of" = true) (k26 : PySem.W.keepIn K (.ref f26) = true)
    {od27 an27 : Option Addr} {sl27 : Array (Option Value)} {oc27 kV27 dc27 pm27 cd27 ct27 : Value} {f27 : Addr}
    (a27 : PySem.W.nsIn K mainGlobals "volume_of" = some (some (.ref f27))) (l27 : K.lookup f27 = some ⟨oc27, od27, .func (PySem.W.fnOf "volume_of" "volume_of" (defArgs s_p_volume_of) (defBody s_p_volume_of) (defScope s_p_volume_of) .none kV27 dc27 pm27 an27 cd27 ct27), sl27⟩) (c27 : PySem.W.codeIn K cd27 "volume_of" = true) (k27 : PySem.W.keepIn K (.ref f27) = true)
    {od28 an28 : Option Addr} {sl28 : Array (Option Value)} {oc28 kV28 dc28 pm28 cd28 ct28 : Value} {f28 : Addr}
    (a28 : PySem.W.nsIn K mainGlobals "water_at" = some (some (.ref f28))) (l28 : K.lookup f28 = some ⟨oc28, od28, .func (PySem.W.fnOf "water_at" "water_at" (defArgs s_p_water_at) (defBody s_p_water_at) (defScope s_p_water_at) .none kV28 dc28 pm28 an28 cd28 ct28), sl28⟩) (c28 : PySem.W.codeIn K cd28 "water_at" = true) (k28 : PySem.W.keepIn K (.ref f28) = true)
    {od29 an29 : Option Addr} {sl29 : Array (Option Value)} {oc29 kV29 dc29 pm29 cd29 ct29 : Value} {f29 : Addr}
    (a29 : PySem.W.nsIn K mainGlobals "boiled_down" = some (some (.ref f29))) (l29 : K.lookup f29 = some ⟨oc29, od29, .func (PySem.W.fnOf "boiled_down" "boiled_down" (defArgs s_p_boiled_down) (defBody s_p_boiled_down) (defScope s_p_boiled_down) .none kV29 dc29 pm29 an29 cd29 ct29), sl29⟩) (c29 : PySem.W.codeIn K cd29 "boiled_down" = true) (k29 : PySem.W.keepIn K (.ref f29) = true)
    {od30 an30 : Option Addr} {sl30 : Array (Option Value)} {oc30 kV30 dc30 pm30 ct30 : Value} {f30 C30 P30 : Addr}
    (a30 : PySem.W.nsIn K mainGlobals "is_name" = some (some (.ref f30))) (l30 : K.lookup f30 = some ⟨oc30, od30, .func (PySem.W.fnOf "is_name" "is_name" (defArgs s_p_is_name) (defBody s_p_is_name) (defScope s_p_is_name) .none kV30 dc30 pm30 an30 (.ref C30) ct30), sl30⟩) (c30 : PySem.W.codeIn K (.ref C30) "is_name" = true) (k30 : PySem.W.keepIn K (.ref f30) = true)
    {te30 : Value} {td30 : Option Addr} {tv30 : Array Value} {ts30 : Array (Option Value)} (q30 : K.lookup C30 = some ⟨te30, td30, .fields tv30, ts30⟩) (p30 : tv30[11]? = some (.ref P30)) (n30 : K.lookup P30 = none)
    {od31 an31 : Option Addr} {sl31 : Array (Option Value)} {oc31 kV31 dc31 pm31 cd31 ct31 : Value} {f31 : Addr}
    (a31 : PySem.W.nsIn K mainGlobals "are_unlike" = some (some (.ref f31))) (l31 : K.lookup f31 = some ⟨oc31, od31, .func (PySem.W.fnOf "are_unlike" "are_unlike" (defArgs s_p_are_unlike) (defBody s_p_are_unlike) (defScope s_p_are_unlike) .none kV31 dc31 pm31 an31 cd31 ct31), sl31⟩) (c31 : PySem.W.codeIn K cd31 "are_unlike" = true) (k31 : PySem.W.keepIn K (.ref f31) = true)
    {od32 an32 : Option Addr} {sl32 : Array (Option Value)} {oc32 kV32 dc32 pm32 cd32 ct32 : Value} {f32 : Addr}
    (a32 : PySem.W.nsIn K mainGlobals "is_kettle" = some (some (.ref f32))) (l32 : K.lookup f32 = some ⟨oc32, od32, .func (PySem.W.fnOf "is_kettle" "is_kettle" (defArgs s_p_is_kettle) (defBody s_p_is_kettle) (defScope s_p_is_kettle) .none kV32 dc32 pm32 an32 cd32 ct32), sl32⟩) (c32 : PySem.W.codeIn K cd32 "is_kettle" = true) (k32 : PySem.W.keepIn K (.ref f32) = true)
    {od33 an33 : Option Addr} {sl33 : Array (Option Value)} {oc33 kV33 dc33 pm33 cd33 ct33 : Value} {f33 : Addr}
    (a33 : PySem.W.nsIn K mainGlobals "is_mould" = some (some (.ref f33))) (l33 : K.lookup f33 = some ⟨oc33, od33, .func (PySem.W.fnOf "is_mould" "is_mould" (defArgs s_p_is_mould) (defBody s_p_is_mould) (defScope s_p_is_mould) .none kV33 dc33 pm33 an33 cd33 ct33), sl33⟩) (c33 : PySem.W.codeIn K cd33 "is_mould" = true) (k33 : PySem.W.keepIn K (.ref f33) = true)
    {od34 an34 : Option Addr} {sl34 : Array (Option Value)} {oc34 kV34 dc34 pm34 ct34 : Value} {f34 C34 P34 : Addr}
    (a34 : PySem.W.nsIn K mainGlobals "_can_be_kettles" = some (some (.ref f34))) (l34 : K.lookup f34 = some ⟨oc34, od34, .func (PySem.W.fnOf "_can_be_kettles" "_can_be_kettles" (defArgs s_p__can_be_kettles) (defBody s_p__can_be_kettles) (defScope s_p__can_be_kettles) .none kV34 dc34 pm34 an34 (.ref C34) ct34), sl34⟩) (c34 : PySem.W.codeIn K (.ref C34) "_can_be_kettles" = true) (k34 : PySem.W.keepIn K (.ref f34) = true)
    {te34 : Value} {td34 : Option Addr} {tv34 : Array Value} {ts34 : Array (Option Value)} (q34 : K.lookup C34 = some ⟨te34, td34, .fields tv34, ts34⟩) (p34 : tv34[11]? = some (.ref P34)) (n34 : K.lookup P34 = none)
    {od35 an35 : Option Addr} {sl35 : Array (Option Value)} {oc35 kV35 dc35 pm35 ct35 : Value} {f35 C35 P35 : Addr}
    (a35 : PySem.W.nsIn K mainGlobals "_can_be_moulds" = some (some (.ref f35))) (l35 : K.lookup f35 = some ⟨oc35, od35, .func (PySem.W.fnOf "_can_be_moulds" "_can_be_moulds" (defArgs s_p__can_be_moulds) (defBody s_p__can_be_moulds) (defScope s_p__can_be_moulds) .none kV35 dc35 pm35 an35 (.ref C35) ct35), sl35⟩) (c35 : PySem.W.codeIn K (.ref C35) "_can_be_moulds" = true) (k35 : PySem.W.keepIn K (.ref f35) = true)
    {te35 : Value} {td35 : Option Addr} {tv35 : Array Value} {ts35 : Array (Option Value)} (q35 : K.lookup C35 = some ⟨te35, td35, .fields tv35, ts35⟩) (p35 : tv35[11]? = some (.ref P35)) (n35 : K.lookup P35 = none)
    {od36 an36 : Option Addr} {sl36 : Array (Option Value)} {oc36 kV36 dc36 pm36 cd36 ct36 : Value} {f36 : Addr}
    (a36 : PySem.W.nsIn K mainGlobals "_are_name_and_room" = some (some (.ref f36))) (l36 : K.lookup f36 = some ⟨oc36, od36, .func (PySem.W.fnOf "_are_name_and_room" "_are_name_and_room" (defArgs s_p__are_name_and_room) (defBody s_p__are_name_and_room) (defScope s_p__are_name_and_room) .none kV36 dc36 pm36 an36 cd36 ct36), sl36⟩) (c36 : PySem.W.codeIn K cd36 "_are_name_and_room" = true) (k36 : PySem.W.keepIn K (.ref f36) = true)
    {od37 an37 : Option Addr} {sl37 : Array (Option Value)} {oc37 kV37 dc37 pm37 cd37 ct37 : Value} {f37 : Addr}
    (a37 : PySem.W.nsIn K mainGlobals "_is_mark" = some (some (.ref f37))) (l37 : K.lookup f37 = some ⟨oc37, od37, .func (PySem.W.fnOf "_is_mark" "_is_mark" (defArgs s_p__is_mark) (defBody s_p__is_mark) (defScope s_p__is_mark) .none kV37 dc37 pm37 an37 cd37 ct37), sl37⟩) (c37 : PySem.W.codeIn K cd37 "_is_mark" = true) (k37 : PySem.W.keepIn K (.ref f37) = true)
    {od38 an38 : Option Addr} {sl38 : Array (Option Value)} {oc38 kV38 dc38 pm38 cd38 ct38 : Value} {f38 : Addr}
    (a38 : PySem.W.nsIn K mainGlobals "_is_drip" = some (some (.ref f38))) (l38 : K.lookup f38 = some ⟨oc38, od38, .func (PySem.W.fnOf "_is_drip" "_is_drip" (defArgs s_p__is_drip) (defBody s_p__is_drip) (defScope s_p__is_drip) .none kV38 dc38 pm38 an38 cd38 ct38), sl38⟩) (c38 : PySem.W.codeIn K cd38 "_is_drip" = true) (k38 : PySem.W.keepIn K (.ref f38) = true)
    {od39 an39 : Option Addr} {sl39 : Array (Option Value)} {oc39 kV39 dc39 pm39 cd39 ct39 : Value} {f39 : Addr}
    (a39 : PySem.W.nsIn K mainGlobals "need_share" = some (some (.ref f39))) (l39 : K.lookup f39 = some ⟨oc39, od39, .func (PySem.W.fnOf "need_share" "need_share" (defArgs s_p_need_share) (defBody s_p_need_share) (defScope s_p_need_share) .none kV39 dc39 pm39 an39 cd39 ct39), sl39⟩) (c39 : PySem.W.codeIn K cd39 "need_share" = true) (k39 : PySem.W.keepIn K (.ref f39) = true)
    {od40 an40 : Option Addr} {sl40 : Array (Option Value)} {oc40 kV40 dc40 pm40 cd40 ct40 : Value} {f40 : Addr}
    (a40 : PySem.W.nsIn K mainGlobals "need_some" = some (some (.ref f40))) (l40 : K.lookup f40 = some ⟨oc40, od40, .func (PySem.W.fnOf "need_some" "need_some" (defArgs s_p_need_some) (defBody s_p_need_some) (defScope s_p_need_some) .none kV40 dc40 pm40 an40 cd40 ct40), sl40⟩) (c40 : PySem.W.codeIn K cd40 "need_some" = true) (k40 : PySem.W.keepIn K (.ref f40) = true)
    {od41 an41 : Option Addr} {sl41 : Array (Option Value)} {oc41 kV41 dc41 pm41 cd41 ct41 : Value} {f41 : Addr}
    (a41 : PySem.W.nsIn K mainGlobals "poured_into" = some (some (.ref f41))) (l41 : K.lookup f41 = some ⟨oc41, od41, .func (PySem.W.fnOf "poured_into" "poured_into" (defArgs s_p_poured_into) (defBody s_p_poured_into) (defScope s_p_poured_into) .none kV41 dc41 pm41 an41 cd41 ct41), sl41⟩) (c41 : PySem.W.codeIn K cd41 "poured_into" = true) (k41 : PySem.W.keepIn K (.ref f41) = true)
    {od42 an42 : Option Addr} {sl42 : Array (Option Value)} {oc42 kV42 dc42 pm42 cd42 ct42 : Value} {f42 : Addr}
    (a42 : PySem.W.nsIn K mainGlobals "_law_cell_at" = some (some (.ref f42))) (l42 : K.lookup f42 = some ⟨oc42, od42, .func (PySem.W.fnOf "_law_cell_at" "_law_cell_at" (defArgs s_l_cell_at) (defBody s_l_cell_at) (defScope s_l_cell_at) .none kV42 dc42 pm42 an42 cd42 ct42), sl42⟩) (c42 : PySem.W.codeIn K cd42 "_law_cell_at" = true) (k42 : PySem.W.keepIn K (.ref f42) = true)
    {od43 an43 : Option Addr} {sl43 : Array (Option Value)} {oc43 kV43 dc43 pm43 cd43 ct43 : Value} {f43 : Addr}
    (a43 : PySem.W.nsIn K mainGlobals "_law_box" = some (some (.ref f43))) (l43 : K.lookup f43 = some ⟨oc43, od43, .func (PySem.W.fnOf "_law_box" "_law_box" (defArgs s_l_box) (defBody s_l_box) (defScope s_l_box) .none kV43 dc43 pm43 an43 cd43 ct43), sl43⟩) (c43 : PySem.W.codeIn K cd43 "_law_box" = true) (k43 : PySem.W.keepIn K (.ref f43) = true)
    {od44 an44 : Option Addr} {sl44 : Array (Option Value)} {oc44 kV44 dc44 pm44 cd44 ct44 : Value} {f44 : Addr}
    (a44 : PySem.W.nsIn K mainGlobals "_law_take" = some (some (.ref f44))) (l44 : K.lookup f44 = some ⟨oc44, od44, .func (PySem.W.fnOf "_law_take" "_law_take" (defArgs s_l_take) (defBody s_l_take) (defScope s_l_take) .none kV44 dc44 pm44 an44 cd44 ct44), sl44⟩) (c44 : PySem.W.codeIn K cd44 "_law_take" = true) (k44 : PySem.W.keepIn K (.ref f44) = true)
    {od45 an45 : Option Addr} {sl45 : Array (Option Value)} {oc45 kV45 dc45 pm45 cd45 ct45 : Value} {f45 : Addr}
    (a45 : PySem.W.nsIn K mainGlobals "_law_names" = some (some (.ref f45))) (l45 : K.lookup f45 = some ⟨oc45, od45, .func (PySem.W.fnOf "_law_names" "_law_names" (defArgs s_l_names) (defBody s_l_names) (defScope s_l_names) .none kV45 dc45 pm45 an45 cd45 ct45), sl45⟩) (c45 : PySem.W.codeIn K cd45 "_law_names" = true) (k45 : PySem.W.keepIn K (.ref f45) = true)
    {od46 an46 : Option Addr} {sl46 : Array (Option Value)} {oc46 kV46 dc46 pm46 cd46 ct46 : Value} {f46 : Addr}
    (a46 : PySem.W.nsIn K mainGlobals "_law_low" = some (some (.ref f46))) (l46 : K.lookup f46 = some ⟨oc46, od46, .func (PySem.W.fnOf "_law_low" "_law_low" (defArgs s_l_low) (defBody s_l_low) (defScope s_l_low) .none kV46 dc46 pm46 an46 cd46 ct46), sl46⟩) (c46 : PySem.W.codeIn K cd46 "_law_low" = true) (k46 : PySem.W.keepIn K (.ref f46) = true)
    {od47 an47 : Option Addr} {sl47 : Array (Option Value)} {oc47 kV47 dc47 pm47 cd47 ct47 : Value} {f47 : Addr}
    (a47 : PySem.W.nsIn K mainGlobals "_law_plus" = some (some (.ref f47))) (l47 : K.lookup f47 = some ⟨oc47, od47, .func (PySem.W.fnOf "_law_plus" "_law_plus" (defArgs s_l_plus) (defBody s_l_plus) (defScope s_l_plus) .none kV47 dc47 pm47 an47 cd47 ct47), sl47⟩) (c47 : PySem.W.codeIn K cd47 "_law_plus" = true) (k47 : PySem.W.keepIn K (.ref f47) = true)
    {od48 an48 : Option Addr} {sl48 : Array (Option Value)} {oc48 kV48 dc48 pm48 cd48 ct48 : Value} {f48 : Addr}
    (a48 : PySem.W.nsIn K mainGlobals "_law_by" = some (some (.ref f48))) (l48 : K.lookup f48 = some ⟨oc48, od48, .func (PySem.W.fnOf "_law_by" "_law_by" (defArgs s_l_by) (defBody s_l_by) (defScope s_l_by) .none kV48 dc48 pm48 an48 cd48 ct48), sl48⟩) (c48 : PySem.W.codeIn K cd48 "_law_by" = true) (k48 : PySem.W.keepIn K (.ref f48) = true)
    {od49 an49 : Option Addr} {sl49 : Array (Option Value)} {oc49 kV49 dc49 pm49 cd49 ct49 : Value} {f49 : Addr}
    (a49 : PySem.W.nsIn K mainGlobals "_law_share" = some (some (.ref f49))) (l49 : K.lookup f49 = some ⟨oc49, od49, .func (PySem.W.fnOf "_law_share" "_law_share" (defArgs s_l_share) (defBody s_l_share) (defScope s_l_share) .none kV49 dc49 pm49 an49 cd49 ct49), sl49⟩) (c49 : PySem.W.codeIn K cd49 "_law_share" = true) (k49 : PySem.W.keepIn K (.ref f49) = true)
    {od50 an50 : Option Addr} {sl50 : Array (Option Value)} {oc50 kV50 dc50 pm50 cd50 ct50 : Value} {f50 : Addr}
    (a50 : PySem.W.nsIn K mainGlobals "_law_row" = some (some (.ref f50))) (l50 : K.lookup f50 = some ⟨oc50, od50, .func (PySem.W.fnOf "_law_row" "_law_row" (defArgs s_l_row) (defBody s_l_row) (defScope s_l_row) .none kV50 dc50 pm50 an50 cd50 ct50), sl50⟩) (c50 : PySem.W.codeIn K cd50 "_law_row" = true) (k50 : PySem.W.keepIn K (.ref f50) = true)
    {od51 an51 : Option Addr} {sl51 : Array (Option Value)} {oc51 kV51 dc51 pm51 cd51 ct51 : Value} {f51 : Addr}
    (a51 : PySem.W.nsIn K mainGlobals "_law_less" = some (some (.ref f51))) (l51 : K.lookup f51 = some ⟨oc51, od51, .func (PySem.W.fnOf "_law_less" "_law_less" (defArgs s_l_less) (defBody s_l_less) (defScope s_l_less) .none kV51 dc51 pm51 an51 cd51 ct51), sl51⟩) (c51 : PySem.W.codeIn K cd51 "_law_less" = true) (k51 : PySem.W.keepIn K (.ref f51) = true)
    {od52 an52 : Option Addr} {sl52 : Array (Option Value)} {oc52 kV52 dc52 pm52 cd52 ct52 : Value} {f52 : Addr}
    (a52 : PySem.W.nsIn K mainGlobals "_law_begun" = some (some (.ref f52))) (l52 : K.lookup f52 = some ⟨oc52, od52, .func (PySem.W.fnOf "_law_begun" "_law_begun" (defArgs s_l_begun) (defBody s_l_begun) (defScope s_l_begun) .none kV52 dc52 pm52 an52 cd52 ct52), sl52⟩) (c52 : PySem.W.codeIn K cd52 "_law_begun" = true) (k52 : PySem.W.keepIn K (.ref f52) = true)
    {od53 an53 : Option Addr} {sl53 : Array (Option Value)} {oc53 kV53 dc53 pm53 cd53 ct53 : Value} {f53 : Addr}
    (a53 : PySem.W.nsIn K mainGlobals "_law_ask" = some (some (.ref f53))) (l53 : K.lookup f53 = some ⟨oc53, od53, .func (PySem.W.fnOf "_law_ask" "_law_ask" (defArgs s_l_ask) (defBody s_l_ask) (defScope s_l_ask) .none kV53 dc53 pm53 an53 cd53 ct53), sl53⟩) (c53 : PySem.W.codeIn K cd53 "_law_ask" = true) (k53 : PySem.W.keepIn K (.ref f53) = true)
    {od54 an54 : Option Addr} {sl54 : Array (Option Value)} {oc54 kV54 dc54 pm54 cd54 ct54 : Value} {f54 : Addr}
    (a54 : PySem.W.nsIn K mainGlobals "_law_told" = some (some (.ref f54))) (l54 : K.lookup f54 = some ⟨oc54, od54, .func (PySem.W.fnOf "_law_told" "_law_told" (defArgs s_l_told) (defBody s_l_told) (defScope s_l_told) .none kV54 dc54 pm54 an54 cd54 ct54), sl54⟩) (c54 : PySem.W.codeIn K cd54 "_law_told" = true) (k54 : PySem.W.keepIn K (.ref f54) = true)
    {od55 an55 : Option Addr} {sl55 : Array (Option Value)} {oc55 kV55 dc55 pm55 cd55 ct55 : Value} {f55 : Addr}
    (a55 : PySem.W.nsIn K mainGlobals "_law_amount" = some (some (.ref f55))) (l55 : K.lookup f55 = some ⟨oc55, od55, .func (PySem.W.fnOf "_law_amount" "_law_amount" (defArgs s_l_amount) (defBody s_l_amount) (defScope s_l_amount) .none kV55 dc55 pm55 an55 cd55 ct55), sl55⟩) (c55 : PySem.W.codeIn K cd55 "_law_amount" = true) (k55 : PySem.W.keepIn K (.ref f55) = true)
    {od56 an56 : Option Addr} {sl56 : Array (Option Value)} {oc56 kV56 dc56 pm56 cd56 ct56 : Value} {f56 : Addr}
    (a56 : PySem.W.nsIn K mainGlobals "_law_juice" = some (some (.ref f56))) (l56 : K.lookup f56 = some ⟨oc56, od56, .func (PySem.W.fnOf "_law_juice" "_law_juice" (defArgs s_l_juice) (defBody s_l_juice) (defScope s_l_juice) .none kV56 dc56 pm56 an56 cd56 ct56), sl56⟩) (c56 : PySem.W.codeIn K cd56 "_law_juice" = true) (k56 : PySem.W.keepIn K (.ref f56) = true)
    {od57 an57 : Option Addr} {sl57 : Array (Option Value)} {oc57 kV57 dc57 pm57 cd57 ct57 : Value} {f57 : Addr}
    (a57 : PySem.W.nsIn K mainGlobals "_law_some_share" = some (some (.ref f57))) (l57 : K.lookup f57 = some ⟨oc57, od57, .func (PySem.W.fnOf "_law_some_share" "_law_some_share" (defArgs s_l_some_share) (defBody s_l_some_share) (defScope s_l_some_share) .none kV57 dc57 pm57 an57 cd57 ct57), sl57⟩) (c57 : PySem.W.codeIn K cd57 "_law_some_share" = true) (k57 : PySem.W.keepIn K (.ref f57) = true)
    {od58 an58 : Option Addr} {sl58 : Array (Option Value)} {oc58 kV58 dc58 pm58 cd58 ct58 : Value} {f58 : Addr}
    (a58 : PySem.W.nsIn K mainGlobals "_law_name" = some (some (.ref f58))) (l58 : K.lookup f58 = some ⟨oc58, od58, .func (PySem.W.fnOf "_law_name" "_law_name" (defArgs s_l_name) (defBody s_l_name) (defScope s_l_name) .none kV58 dc58 pm58 an58 cd58 ct58), sl58⟩) (c58 : PySem.W.codeIn K cd58 "_law_name" = true) (k58 : PySem.W.keepIn K (.ref f58) = true)
    {od59 an59 : Option Addr} {sl59 : Array (Option Value)} {oc59 kV59 dc59 pm59 cd59 ct59 : Value} {f59 : Addr}
    (a59 : PySem.W.nsIn K mainGlobals "_law_deed" = some (some (.ref f59))) (l59 : K.lookup f59 = some ⟨oc59, od59, .func (PySem.W.fnOf "_law_deed" "_law_deed" (defArgs s_l_deed) (defBody s_l_deed) (defScope s_l_deed) .none kV59 dc59 pm59 an59 cd59 ct59), sl59⟩) (c59 : PySem.W.codeIn K cd59 "_law_deed" = true) (k59 : PySem.W.keepIn K (.ref f59) = true)
    {od60 an60 : Option Addr} {sl60 : Array (Option Value)} {oc60 kV60 dc60 pm60 cd60 ct60 : Value} {f60 : Addr}
    (a60 : PySem.W.nsIn K mainGlobals "_law_more" = some (some (.ref f60))) (l60 : K.lookup f60 = some ⟨oc60, od60, .func (PySem.W.fnOf "_law_more" "_law_more" (defArgs s_l_more) (defBody s_l_more) (defScope s_l_more) .none kV60 dc60 pm60 an60 cd60 ct60), sl60⟩) (c60 : PySem.W.codeIn K cd60 "_law_more" = true) (k60 : PySem.W.keepIn K (.ref f60) = true)
    {od61 an61 : Option Addr} {sl61 : Array (Option Value)} {oc61 kV61 dc61 pm61 cd61 ct61 : Value} {f61 : Addr}
    (a61 : PySem.W.nsIn K mainGlobals "_law_sum_right" = some (some (.ref f61))) (l61 : K.lookup f61 = some ⟨oc61, od61, .func (PySem.W.fnOf "_law_sum_right" "_law_sum_right" (defArgs s_l_sum_right) (defBody s_l_sum_right) (defScope s_l_sum_right) .none kV61 dc61 pm61 an61 cd61 ct61), sl61⟩) (c61 : PySem.W.codeIn K cd61 "_law_sum_right" = true) (k61 : PySem.W.keepIn K (.ref f61) = true)
    {od62 an62 : Option Addr} {sl62 : Array (Option Value)} {oc62 kV62 dc62 pm62 cd62 ct62 : Value} {f62 : Addr}
    (a62 : PySem.W.nsIn K mainGlobals "law" = some (some (.ref f62))) (l62 : K.lookup f62 = some ⟨oc62, od62, .func (PySem.W.fnOf "law" "law" (defArgs s_p_law) (defBody s_p_law) (defScope s_p_law) .none kV62 dc62 pm62 an62 cd62 ct62), sl62⟩) (c62 : PySem.W.codeIn K cd62 "law" = true) (k62 : PySem.W.keepIn K (.ref f62) = true)
    (z_ValueError : PySem.W.nsIn K mainGlobals "ValueError" = some none)
    (z_abs : PySem.W.nsIn K mainGlobals "abs" = some none)
    (z_all : PySem.W.nsIn K mainGlobals "all" = some none)
    (z_bool : PySem.W.nsIn K mainGlobals "bool" = some none)
    (z_dict : PySem.W.nsIn K mainGlobals "dict" = some none)
    (z_divmod : PySem.W.nsIn K mainGlobals "divmod" = some none)
    (z_int : PySem.W.nsIn K mainGlobals "int" = some none)
    (z_isinstance : PySem.W.nsIn K mainGlobals "isinstance" = some none)
    (z_len : PySem.W.nsIn K mainGlobals "len" = some none)
    (z_list : PySem.W.nsIn K mainGlobals "list" = some none)
    (z_max : PySem.W.nsIn K mainGlobals "max" = some none)
    (z_min : PySem.W.nsIn K mainGlobals "min" = some none)
    (z_range : PySem.W.nsIn K mainGlobals "range" = some none)
    (z_set : PySem.W.nsIn K mainGlobals "set" = some none)
    (z_str : PySem.W.nsIn K mainGlobals "str" = some none)
    (z_tuple : PySem.W.nsIn K mainGlobals "tuple" = some none)
    (z_gcd : PySem.W.nsIn K mainGlobals "gcd" = some (some (.builtin "math.gcd")))
    {t_MOST_LETTERS : Tok} (z_MOST_LETTERS : PySem.W.nsIn K mainGlobals "MOST_LETTERS" = some (some (.int 8 t_MOST_LETTERS)))
    {t_MOST_KETTLES : Tok} (z_MOST_KETTLES : PySem.W.nsIn K mainGlobals "MOST_KETTLES" = some (some (.int 8 t_MOST_KETTLES)))
    {t_MOST_MOULDS : Tok} (z_MOST_MOULDS : PySem.W.nsIn K mainGlobals "MOST_MOULDS" = some (some (.int 40 t_MOST_MOULDS)))
    {t_MOST_ROOM : Tok} (z_MOST_ROOM : PySem.W.nsIn K mainGlobals "MOST_ROOM" = some (some (.int 1000000 t_MOST_ROOM)))
    {t_MOST_FIRE : Tok} (z_MOST_FIRE : PySem.W.nsIn K mainGlobals "MOST_FIRE" = some (some (.int 10000 t_MOST_FIRE)))
    {t_MOST_MARK_BOTTOM : Tok} (z_MOST_MARK_BOTTOM : PySem.W.nsIn K mainGlobals "MOST_MARK_BOTTOM" = some (some (.int 60 t_MOST_MARK_BOTTOM)))
    {t_MOST_DRIP_BOTTOM : Tok} (z_MOST_DRIP_BOTTOM : PySem.W.nsIn K mainGlobals "MOST_DRIP_BOTTOM" = some (some (.int 12 t_MOST_DRIP_BOTTOM)))
    {t_MOST_BOTTOM : Tok} (z_MOST_BOTTOM : PySem.W.nsIn K mainGlobals "MOST_BOTTOM" = some (some (.int 12 t_MOST_BOTTOM)))
    {C_BoilError : Addr} (y_BoilError : PySem.W.nsIn K mainGlobals "BoilError" = some (some (.ref C_BoilError)))
    {C_NoKettle : Addr} (y_NoKettle : PySem.W.nsIn K mainGlobals "NoKettle" = some (some (.ref C_NoKettle)))
    {C_NoRoom : Addr} (y_NoRoom : PySem.W.nsIn K mainGlobals "NoRoom" = some (some (.ref C_NoRoom)))
    {C_NoShare : Addr} (y_NoShare : PySem.W.nsIn K mainGlobals "NoShare" = some (some (.ref C_NoShare)))
    {C_Empty : Addr} (y_Empty : PySem.W.nsIn K mainGlobals "Empty" = some (some (.ref C_Empty)))
    {C_Same : Addr} (y_Same : PySem.W.nsIn K mainGlobals "Same" = some (some (.ref C_Same)))
    {C_Stopped : Addr} (y_Stopped : PySem.W.nsIn K mainGlobals "Stopped" = some (some (.ref C_Stopped)))
    {C_InWork : Addr} (y_InWork : PySem.W.nsIn K mainGlobals "InWork" = some (some (.ref C_InWork)))
    {C_BadDeed : Addr} (y_BadDeed : PySem.W.nsIn K mainGlobals "BadDeed" = some (some (.ref C_BadDeed)))
    {C_BadFrac : Addr} (y_BadFrac : PySem.W.nsIn K mainGlobals "BadFrac" = some (some (.ref C_BadFrac)))
    {C_BadKettles : Addr} (y_BadKettles : PySem.W.nsIn K mainGlobals "BadKettles" = some (some (.ref C_BadKettles)))
    {C_BadMoulds : Addr} (y_BadMoulds : PySem.W.nsIn K mainGlobals "BadMoulds" = some (some (.ref C_BadMoulds)))
    {C_BadRow : Addr} (y_BadRow : PySem.W.nsIn K mainGlobals "BadRow" = some (some (.ref C_BadRow)))
    {C_Cured : Addr} (y_Cured : PySem.W.nsIn K mainGlobals "Cured" = some (some (.ref C_Cured)))
    {C_NoHour : Addr} (y_NoHour : PySem.W.nsIn K mainGlobals "NoHour" = some (some (.ref C_NoHour)))
    {C_NoMould : Addr} (y_NoMould : PySem.W.nsIn K mainGlobals "NoMould" = some (some (.ref C_NoMould)))
    {C_NoSteady : Addr} (y_NoSteady : PySem.W.nsIn K mainGlobals "NoSteady" = some (some (.ref C_NoSteady)))
    {C_NoTelling : Addr} (y_NoTelling : PySem.W.nsIn K mainGlobals "NoTelling" = some (some (.ref C_NoTelling)))
    {C_NotCured : Addr} (y_NotCured : PySem.W.nsIn K mainGlobals "NotCured" = some (some (.ref C_NotCured)))
    {C_NotReady : Addr} (y_NotReady : PySem.W.nsIn K mainGlobals "NotReady" = some (some (.ref C_NotReady)))
    {C_TooStrong : Addr} (y_TooStrong : PySem.W.nsIn K mainGlobals "TooStrong" = some (some (.ref C_TooStrong)))
    {nm_NoKettle q_NoKettle : Str} {N_NoKettle fI_NoKettle : Addr} {bs_NoKettle : List Value} {sn_NoKettle : List Str} {sub_NoKettle : List Value} {ab_NoKettle : Bool} {col_NoKettle : Option Bool} {dd_NoKettle odI_NoKettle anI_NoKettle : Option Addr} {t2_NoKettle : Tok} {m0_NoKettle m1_NoKettle m3_NoKettle m5_NoKettle : Option Value} {ocI_NoKettle kVI_NoKettle dcI_NoKettle pmI_NoKettle cdI_NoKettle ctI_NoKettle : Value} {slI_NoKettle : Array (Option Value)}
    (xL_NoKettle : K.lookup C_NoKettle = some (excClassObj nm_NoKettle q_NoKettle C_NoKettle N_NoKettle bs_NoKettle [.ref C_BoilError, .type "ValueError", .type "Exception", .type "BaseException", .type "object"] true sn_NoKettle sub_NoKettle ab_NoKettle col_NoKettle dd_NoKettle m0_NoKettle m1_NoKettle (some (.str "NoKettle" t2_NoKettle)) m3_NoKettle m5_NoKettle "ValueError.__new__"))
    (xsa_NoKettle : PySem.W.findIn K (.ref C_NoKettle) "__setattr__" = some (some (.builtin "object.__setattr__")))
    (xex_NoKettle : PySem.W.subIn K (.ref C_NoKettle) (.type "BaseException") = some true)
    (xty_NoKettle : PySem.W.typeIn K (.ref C_NoKettle) = some (.type "type"))
    (xk_NoKettle : PySem.W.keepIn K (.ref C_NoKettle) = true)
    (xi_NoKettle : PySem.W.findIn K (.ref C_NoKettle) "__init__" = some (some (.ref fI_NoKettle)))
    (xti_NoKettle : PySem.W.typeIn K (.ref fI_NoKettle) = some (.type "function"))
    (xl_NoKettle : K.lookup fI_NoKettle = some ⟨ocI_NoKettle, odI_NoKettle, .func (PySem.W.fnOf "__init__" "NoKettle.__init__" (defArgs s_init_NoKettle) (defBody s_init_NoKettle) (defScope s_init_NoKettle) .none kVI_NoKettle dcI_NoKettle pmI_NoKettle anI_NoKettle cdI_NoKettle ctI_NoKettle), slI_NoKettle⟩)
    (xc_NoKettle : PySem.W.codeIn K cdI_NoKettle "NoKettle.__init__" = true)
    (xki_NoKettle : PySem.W.keepIn K (.ref fI_NoKettle) = true)
    (ecl_NoKettle : PySem.W.isClsIn K C_NoKettle = true)
    (ega_NoKettle : PySem.W.findIn K (.ref C_NoKettle) "__getattribute__" = some (some (.builtin "BaseException.__getattribute__")))
    (egg_NoKettle : PySem.W.findIn K (.ref C_NoKettle) "__getattr__" = some none)
    (ecs_NoKettle : PySem.W.findIn K (.ref C_NoKettle) "__class__" = some (some (.builtin "object.__class__")))
    (ege_NoKettle : PySem.W.specialIn K (.builtin "object.__class__") "__get__" = some (some (.builtin "getset_descriptor.__get__")))
    (etk_NoKettle : PySem.W.takesIn K (.builtin "object.__class__") = some true)
    (eob_NoKettle : PySem.W.mroIn K C_NoKettle (.type "object") = some true)
    (edi_NoKettle : PySem.W.hasDictIn K C_NoKettle = true)
    (efw_NoKettle : PySem.W.findIn K (.ref C_NoKettle) "word" = some none)
    (ern_NoKettle : PySem.W.readsIn K C_NoKettle (.type "type") = true)
    (efc_NoKettle : PySem.W.findCls K (.ref C_NoKettle) (.type "type") "__name__" = some (.get (.builtin "getset_descriptor.__get__") (.builtin "type.__name__") (.ref C_NoKettle) (.type "type")))
    (efl_NoKettle : PySem.W.findIn K (.ref C_NoKettle) "what" = some none)
    {nm_NoRoom q_NoRoom : Str} {N_NoRoom fI_NoRoom : Addr} {bs_NoRoom : List Value} {sn_NoRoom : List Str} {sub_NoRoom : List Value} {ab_NoRoom : Bool} {col_NoRoom : Option Bool} {dd_NoRoom odI_NoRoom anI_NoRoom : Option Addr} {t2_NoRoom : Tok} {m0_NoRoom m1_NoRoom m3_NoRoom m5_NoRoom : Option Value} {ocI_NoRoom kVI_NoRoom dcI_NoRoom pmI_NoRoom cdI_NoRoom ctI_NoRoom : Value} {slI_NoRoom : Array (Option Value)}
    (xL_NoRoom : K.lookup C_NoRoom = some (excClassObj nm_NoRoom q_NoRoom C_NoRoom N_NoRoom bs_NoRoom [.ref C_BoilError, .type "ValueError", .type "Exception", .type "BaseException", .type "object"] true sn_NoRoom sub_NoRoom ab_NoRoom col_NoRoom dd_NoRoom m0_NoRoom m1_NoRoom (some (.str "NoRoom" t2_NoRoom)) m3_NoRoom m5_NoRoom "ValueError.__new__"))
    (xsa_NoRoom : PySem.W.findIn K (.ref C_NoRoom) "__setattr__" = some (some (.builtin "object.__setattr__")))
    (xex_NoRoom : PySem.W.subIn K (.ref C_NoRoom) (.type "BaseException") = some true)
    (xty_NoRoom : PySem.W.typeIn K (.ref C_NoRoom) = some (.type "type"))
    (xk_NoRoom : PySem.W.keepIn K (.ref C_NoRoom) = true)
    (xi_NoRoom : PySem.W.findIn K (.ref C_NoRoom) "__init__" = some (some (.ref fI_NoRoom)))
    (xti_NoRoom : PySem.W.typeIn K (.ref fI_NoRoom) = some (.type "function"))
    (xl_NoRoom : K.lookup fI_NoRoom = some ⟨ocI_NoRoom, odI_NoRoom, .func (PySem.W.fnOf "__init__" "NoRoom.__init__" (defArgs s_init_NoRoom) (defBody s_init_NoRoom) (defScope s_init_NoRoom) .none kVI_NoRoom dcI_NoRoom pmI_NoRoom anI_NoRoom cdI_NoRoom ctI_NoRoom), slI_NoRoom⟩)
    (xc_NoRoom : PySem.W.codeIn K cdI_NoRoom "NoRoom.__init__" = true)
    (xki_NoRoom : PySem.W.keepIn K (.ref fI_NoRoom) = true)
    (ecl_NoRoom : PySem.W.isClsIn K C_NoRoom = true)
    (ega_NoRoom : PySem.W.findIn K (.ref C_NoRoom) "__getattribute__" = some (some (.builtin "BaseException.__getattribute__")))
    (egg_NoRoom : PySem.W.findIn K (.ref C_NoRoom) "__getattr__" = some none)
    (ecs_NoRoom : PySem.W.findIn K (.ref C_NoRoom) "__class__" = some (some (.builtin "object.__class__")))
    (ege_NoRoom : PySem.W.specialIn K (.builtin "object.__class__") "__get__" = some (some (.builtin "getset_descriptor.__get__")))
    (etk_NoRoom : PySem.W.takesIn K (.builtin "object.__class__") = some true)
    (eob_NoRoom : PySem.W.mroIn K C_NoRoom (.type "object") = some true)
    (edi_NoRoom : PySem.W.hasDictIn K C_NoRoom = true)
    (efw_NoRoom : PySem.W.findIn K (.ref C_NoRoom) "word" = some none)
    (ern_NoRoom : PySem.W.readsIn K C_NoRoom (.type "type") = true)
    (efc_NoRoom : PySem.W.findCls K (.ref C_NoRoom) (.type "type") "__name__" = some (.get (.builtin "getset_descriptor.__get__") (.builtin "type.__name__") (.ref C_NoRoom) (.type "type")))
    (efl_NoRoom : PySem.W.findIn K (.ref C_NoRoom) "what" = some none)
    {nm_NoShare q_NoShare : Str} {N_NoShare fI_NoShare : Addr} {bs_NoShare : List Value} {sn_NoShare : List Str} {sub_NoShare : List Value} {ab_NoShare : Bool} {col_NoShare : Option Bool} {dd_NoShare odI_NoShare anI_NoShare : Option Addr} {t2_NoShare : Tok} {m0_NoShare m1_NoShare m3_NoShare m5_NoShare : Option Value} {ocI_NoShare kVI_NoShare dcI_NoShare pmI_NoShare cdI_NoShare ctI_NoShare : Value} {slI_NoShare : Array (Option Value)}
    (xL_NoShare : K.lookup C_NoShare = some (excClassObj nm_NoShare q_NoShare C_NoShare N_NoShare bs_NoShare [.ref C_BoilError, .type "ValueError", .type "Exception", .type "BaseException", .type "object"] true sn_NoShare sub_NoShare ab_NoShare col_NoShare dd_NoShare m0_NoShare m1_NoShare (some (.str "NoShare" t2_NoShare)) m3_NoShare m5_NoShare "ValueError.__new__"))
    (xsa_NoShare : PySem.W.findIn K (.ref C_NoShare) "__setattr__" = some (some (.builtin "object.__setattr__")))
    (xex_NoShare : PySem.W.subIn K (.ref C_NoShare) (.type "BaseException") = some true)
    (xty_NoShare : PySem.W.typeIn K (.ref C_NoShare) = some (.type "type"))
    (xk_NoShare : PySem.W.keepIn K (.ref C_NoShare) = true)
    (xi_NoShare : PySem.W.findIn K (.ref C_NoShare) "__init__" = some (some (.ref fI_NoShare)))
    (xti_NoShare : PySem.W.typeIn K (.ref fI_NoShare) = some (.type "function"))
    (xl_NoShare : K.lookup fI_NoShare = some ⟨ocI_NoShare, odI_NoShare, .func (PySem.W.fnOf "__init__" "NoShare.__init__" (defArgs s_init_NoShare) (defBody s_init_NoShare) (defScope s_init_NoShare) .none kVI_NoShare dcI_NoShare pmI_NoShare anI_NoShare cdI_NoShare ctI_NoShare), slI_NoShare⟩)
    (xc_NoShare : PySem.W.codeIn K cdI_NoShare "NoShare.__init__" = true)
    (xki_NoShare : PySem.W.keepIn K (.ref fI_NoShare) = true)
    (ecl_NoShare : PySem.W.isClsIn K C_NoShare = true)
    (ega_NoShare : PySem.W.findIn K (.ref C_NoShare) "__getattribute__" = some (some (.builtin "BaseException.__getattribute__")))
    (egg_NoShare : PySem.W.findIn K (.ref C_NoShare) "__getattr__" = some none)
    (ecs_NoShare : PySem.W.findIn K (.ref C_NoShare) "__class__" = some (some (.builtin "object.__class__")))
    (ege_NoShare : PySem.W.specialIn K (.builtin "object.__class__") "__get__" = some (some (.builtin "getset_descriptor.__get__")))
    (etk_NoShare : PySem.W.takesIn K (.builtin "object.__class__") = some true)
    (eob_NoShare : PySem.W.mroIn K C_NoShare (.type "object") = some true)
    (edi_NoShare : PySem.W.hasDictIn K C_NoShare = true)
    (efw_NoShare : PySem.W.findIn K (.ref C_NoShare) "word" = some none)
    (ern_NoShare : PySem.W.readsIn K C_NoShare (.type "type") = true)
    (efc_NoShare : PySem.W.findCls K (.ref C_NoShare) (.type "type") "__name__" = some (.get (.builtin "getset_descriptor.__get__") (.builtin "type.__name__") (.ref C_NoShare) (.type "type")))
    (efl_NoShare : PySem.W.findIn K (.ref C_NoShare) "what" = some none)
    {nm_Empty q_Empty : Str} {N_Empty fI_Empty : Addr} {bs_Empty : List Value} {sn_Empty : List Str} {sub_Empty : List Value} {ab_Empty : Bool} {col_Empty : Option Bool} {dd_Empty odI_Empty anI_Empty : Option Addr} {t2_Empty : Tok} {m0_Empty m1_Empty m3_Empty m5_Empty : Option Value} {ocI_Empty kVI_Empty dcI_Empty pmI_Empty cdI_Empty ctI_Empty : Value} {slI_Empty : Array (Option Value)}
    (xL_Empty : K.lookup C_Empty = some (excClassObj nm_Empty q_Empty C_Empty N_Empty bs_Empty [.ref C_BoilError, .type "ValueError", .type "Exception", .type "BaseException", .type "object"] true sn_Empty sub_Empty ab_Empty col_Empty dd_Empty m0_Empty m1_Empty (some (.str "Empty" t2_Empty)) m3_Empty m5_Empty "ValueError.__new__"))
    (xsa_Empty : PySem.W.findIn K (.ref C_Empty) "__setattr__" = some (some (.builtin "object.__setattr__")))
    (xex_Empty : PySem.W.subIn K (.ref C_Empty) (.type "BaseException") = some true)
    (xty_Empty : PySem.W.typeIn K (.ref C_Empty) = some (.type "type"))
    (xk_Empty : PySem.W.keepIn K (.ref C_Empty) = true)
    (xi_Empty : PySem.W.findIn K (.ref C_Empty) "__init__" = some (some (.ref fI_Empty)))
    (xti_Empty : PySem.W.typeIn K (.ref fI_Empty) = some (.type "function"))
    (xl_Empty : K.lookup fI_Empty = some ⟨ocI_Empty, odI_Empty, .func (PySem.W.fnOf "__init__" "Empty.__init__" (defArgs s_init_Empty) (defBody s_init_Empty) (defScope s_init_Empty) .none kVI_Empty dcI_Empty pmI_Empty anI_Empty cdI_Empty ctI_Empty), slI_Empty⟩)
    (xc_Empty : PySem.W.codeIn K cdI_Empty "Empty.__init__" = true)
    (xki_Empty : PySem.W.keepIn K (.ref fI_Empty) = true)
    (ecl_Empty : PySem.W.isClsIn K C_Empty = true)
    (ega_Empty : PySem.W.findIn K (.ref C_Empty) "__getattribute__" = some (some (.builtin "BaseException.__getattribute__")))
    (egg_Empty : PySem.W.findIn K (.ref C_Empty) "__getattr__" = some none)
    (ecs_Empty : PySem.W.findIn K (.ref C_Empty) "__class__" = some (some (.builtin "object.__class__")))
    (ege_Empty : PySem.W.specialIn K (.builtin "object.__class__") "__get__" = some (some (.builtin "getset_descriptor.__get__")))
    (etk_Empty : PySem.W.takesIn K (.builtin "object.__class__") = some true)
    (eob_Empty : PySem.W.mroIn K C_Empty (.type "object") = some true)
    (edi_Empty : PySem.W.hasDictIn K C_Empty = true)
    (efw_Empty : PySem.W.findIn K (.ref C_Empty) "word" = some none)
    (ern_Empty : PySem.W.readsIn K C_Empty (.type "type") = true)
    (efc_Empty : PySem.W.findCls K (.ref C_Empty) (.type "type") "__name__" = some (.get (.builtin "getset_descriptor.__get__") (.builtin "type.__name__") (.ref C_Empty) (.type "type")))
    (efl_Empty : PySem.W.findIn K (.ref C_Empty) "what" = some none)
    {nm_Same q_Same : Str} {N_Same fI_Same : Addr} {bs_Same : List Value} {sn_Same : List Str} {sub_Same : List Value} {ab_Same : Bool} {col_Same : Option Bool} {dd_Same odI_Same anI_Same : Option Addr} {t2_Same : Tok} {m0_Same m1_Same m3_Same m5_Same : Option Value} {ocI_Same kVI_Same dcI_Same pmI_Same cdI_Same ctI_Same : Value} {slI_Same : Array (Option Value)}
    (xL_Same : K.lookup C_Same = some (excClassObj nm_Same q_Same C_Same N_Same bs_Same [.ref C_BoilError, .type "ValueError", .type "Exception", .type "BaseException", .type "object"] true sn_Same sub_Same ab_Same col_Same dd_Same m0_Same m1_Same (some (.str "Same" t2_Same)) m3_Same m5_Same "ValueError.__new__"))
    (xsa_Same : PySem.W.findIn K (.ref C_Same) "__setattr__" = some (some (.builtin "object.__setattr__")))
    (xex_Same : PySem.W.subIn K (.ref C_Same) (.type "BaseException") = some true)
    (xty_Same : PySem.W.typeIn K (.ref C_Same) = some (.type "type"))
    (xk_Same : PySem.W.keepIn K (.ref C_Same) = true)
    (xi_Same : PySem.W.findIn K (.ref C_Same) "__init__" = some (some (.ref fI_Same)))
    (xti_Same : PySem.W.typeIn K (.ref fI_Same) = some (.type "function"))
    (xl_Same : K.lookup fI_Same = some ⟨ocI_Same, odI_Same, .func (PySem.W.fnOf "__init__" "Same.__init__" (defArgs s_init_Same) (defBody s_init_Same) (defScope s_init_Same) .none kVI_Same dcI_Same pmI_Same anI_Same cdI_Same ctI_Same), slI_Same⟩)
    (xc_Same : PySem.W.codeIn K cdI_Same "Same.__init__" = true)
    (xki_Same : PySem.W.keepIn K (.ref fI_Same) = true)
    (ecl_Same : PySem.W.isClsIn K C_Same = true)
    (ega_Same : PySem.W.findIn K (.ref C_Same) "__getattribute__" = some (some (.builtin "BaseException.__getattribute__")))
    (egg_Same : PySem.W.findIn K (.ref C_Same) "__getattr__" = some none)
    (ecs_Same : PySem.W.findIn K (.ref C_Same) "__class__" = some (some (.builtin "object.__class__")))
    (ege_Same : PySem.W.specialIn K (.builtin "object.__class__") "__get__" = some (some (.builtin "getset_descriptor.__get__")))
    (etk_Same : PySem.W.takesIn K (.builtin "object.__class__") = some true)
    (eob_Same : PySem.W.mroIn K C_Same (.type "object") = some true)
    (edi_Same : PySem.W.hasDictIn K C_Same = true)
    (efw_Same : PySem.W.findIn K (.ref C_Same) "word" = some none)
    (ern_Same : PySem.W.readsIn K C_Same (.type "type") = true)
    (efc_Same : PySem.W.findCls K (.ref C_Same) (.type "type") "__name__" = some (.get (.builtin "getset_descriptor.__get__") (.builtin "type.__name__") (.ref C_Same) (.type "type")))
    (efl_Same : PySem.W.findIn K (.ref C_Same) "what" = some none)
    {nm_Stopped q_Stopped : Str} {N_Stopped fI_Stopped : Addr} {bs_Stopped : List Value} {sn_Stopped : List Str} {sub_Stopped : List Value} {ab_Stopped : Bool} {col_Stopped : Option Bool} {dd_Stopped odI_Stopped anI_Stopped : Option Addr} {t2_Stopped : Tok} {m0_Stopped m1_Stopped m3_Stopped m5_Stopped : Option Value} {ocI_Stopped kVI_Stopped dcI_Stopped pmI_Stopped cdI_Stopped ctI_Stopped : Value} {slI_Stopped : Array (Option Value)}
    (xL_Stopped : K.lookup C_Stopped = some (excClassObj nm_Stopped q_Stopped C_Stopped N_Stopped bs_Stopped [.ref C_BoilError, .type "ValueError", .type "Exception", .type "BaseException", .type "object"] true sn_Stopped sub_Stopped ab_Stopped col_Stopped dd_Stopped m0_Stopped m1_Stopped (some (.str "Stopped" t2_Stopped)) m3_Stopped m5_Stopped "ValueError.__new__"))
    (xsa_Stopped : PySem.W.findIn K (.ref C_Stopped) "__setattr__" = some (some (.builtin "object.__setattr__")))
    (xex_Stopped : PySem.W.subIn K (.ref C_Stopped) (.type "BaseException") = some true)
    (xty_Stopped : PySem.W.typeIn K (.ref C_Stopped) = some (.type "type"))
    (xk_Stopped : PySem.W.keepIn K (.ref C_Stopped) = true)
    (xi_Stopped : PySem.W.findIn K (.ref C_Stopped) "__init__" = some (some (.ref fI_Stopped)))
    (xti_Stopped : PySem.W.typeIn K (.ref fI_Stopped) = some (.type "function"))
    (xl_Stopped : K.lookup fI_Stopped = some ⟨ocI_Stopped, odI_Stopped, .func (PySem.W.fnOf "__init__" "Stopped.__init__" (defArgs s_init_Stopped) (defBody s_init_Stopped) (defScope s_init_Stopped) .none kVI_Stopped dcI_Stopped pmI_Stopped anI_Stopped cdI_Stopped ctI_Stopped), slI_Stopped⟩)
    (xc_Stopped : PySem.W.codeIn K cdI_Stopped "Stopped.__init__" = true)
    (xki_Stopped : PySem.W.keepIn K (.ref fI_Stopped) = true)
    (ecl_Stopped : PySem.W.isClsIn K C_Stopped = true)
    (ega_Stopped : PySem.W.findIn K (.ref C_Stopped) "__getattribute__" = some (some (.builtin "BaseException.__getattribute__")))
    (egg_Stopped : PySem.W.findIn K (.ref C_Stopped) "__getattr__" = some none)
    (ecs_Stopped : PySem.W.findIn K (.ref C_Stopped) "__class__" = some (some (.builtin "object.__class__")))
    (ege_Stopped : PySem.W.specialIn K (.builtin "object.__class__") "__get__" = some (some (.builtin "getset_descriptor.__get__")))
    (etk_Stopped : PySem.W.takesIn K (.builtin "object.__class__") = some true)
    (eob_Stopped : PySem.W.mroIn K C_Stopped (.type "object") = some true)
    (edi_Stopped : PySem.W.hasDictIn K C_Stopped = true)
    (efw_Stopped : PySem.W.findIn K (.ref C_Stopped) "word" = some none)
    (ern_Stopped : PySem.W.readsIn K C_Stopped (.type "type") = true)
    (efc_Stopped : PySem.W.findCls K (.ref C_Stopped) (.type "type") "__name__" = some (.get (.builtin "getset_descriptor.__get__") (.builtin "type.__name__") (.ref C_Stopped) (.type "type")))
    (efl_Stopped : PySem.W.findIn K (.ref C_Stopped) "what" = some none)
    {nm_InWork q_InWork : Str} {N_InWork fI_InWork : Addr} {bs_InWork : List Value} {sn_InWork : List Str} {sub_InWork : List Value} {ab_InWork : Bool} {col_InWork : Option Bool} {dd_InWork odI_InWork anI_InWork : Option Addr} {t2_InWork : Tok} {m0_InWork m1_InWork m3_InWork m5_InWork : Option Value} {ocI_InWork kVI_InWork dcI_InWork pmI_InWork cdI_InWork ctI_InWork : Value} {slI_InWork : Array (Option Value)}
    (xL_InWork : K.lookup C_InWork = some (excClassObj nm_InWork q_InWork C_InWork N_InWork bs_InWork [.ref C_BoilError, .type "ValueError", .type "Exception", .type "BaseException", .type "object"] true sn_InWork sub_InWork ab_InWork col_InWork dd_InWork m0_InWork m1_InWork (some (.str "InWork" t2_InWork)) m3_InWork m5_InWork "ValueError.__new__"))
    (xsa_InWork : PySem.W.findIn K (.ref C_InWork) "__setattr__" = some (some (.builtin "object.__setattr__")))
    (xex_InWork : PySem.W.subIn K (.ref C_InWork) (.type "BaseException") = some true)
    (xty_InWork : PySem.W.typeIn K (.ref C_InWork) = some (.type "type"))
    (xk_InWork : PySem.W.keepIn K (.ref C_InWork) = true)
    (xi_InWork : PySem.W.findIn K (.ref C_InWork) "__init__" = some (some (.ref fI_InWork)))
    (xti_InWork : PySem.W.typeIn K (.ref fI_InWork) = some (.type "function"))
    (xl_InWork : K.lookup fI_InWork = some ⟨ocI_InWork, odI_InWork, .func (PySem.W.fnOf "__init__" "InWork.__init__" (defArgs s_init_InWork) (defBody s_init_InWork) (defScope s_init_InWork) .none kVI_InWork dcI_InWork pmI_InWork anI_InWork cdI_InWork ctI_InWork), slI_InWork⟩)
    (xc_InWork : PySem.W.codeIn K cdI_InWork "InWork.__init__" = true)
    (xki_InWork : PySem.W.keepIn K (.ref fI_InWork) = true)
    (ecl_InWork : PySem.W.isClsIn K C_InWork = true)
    (ega_InWork : PySem.W.findIn K (.ref C_InWork) "__getattribute__" = some (some (.builtin "BaseException.__getattribute__")))
    (egg_InWork : PySem.W.findIn K (.ref C_InWork) "__getattr__" = some none)
    (ecs_InWork : PySem.W.findIn K (.ref C_InWork) "__class__" = some (some (.builtin "object.__class__")))
    (ege_InWork : PySem.W.specialIn K (.builtin "object.__class__") "__get__" = some (some (.builtin "getset_descriptor.__get__")))
    (etk_InWork : PySem.W.takesIn K (.builtin "object.__class__") = some true)
    (eob_InWork : PySem.W.mroIn K C_InWork (.type "object") = some true)
    (edi_InWork : PySem.W.hasDictIn K C_InWork = true)
    (efw_InWork : PySem.W.findIn K (.ref C_InWork) "word" = some none)
    (ern_InWork : PySem.W.readsIn K C_InWork (.type "type") = true)
    (efc_InWork : PySem.W.findCls K (.ref C_InWork) (.type "type") "__name__" = some (.get (.builtin "getset_descriptor.__get__") (.builtin "type.__name__") (.ref C_InWork) (.type "type")))
    (efl_InWork : PySem.W.findIn K (.ref C_InWork) "what" = some none)
    (ic_BoilError : PySem.W.isClsIn K C_BoilError = true)
    (it_BoilError : PySem.W.typeIn K (.ref C_BoilError) = some (.type "type"))
    (ic_BadDeed : PySem.W.isClsIn K C_BadDeed = true)
    (it_BadDeed : PySem.W.typeIn K (.ref C_BadDeed) = some (.type "type"))
    (ic_BadFrac : PySem.W.isClsIn K C_BadFrac = true)
    (it_BadFrac : PySem.W.typeIn K (.ref C_BadFrac) = some (.type "type"))
    (ic_BadKettles : PySem.W.isClsIn K C_BadKettles = true)
    (it_BadKettles : PySem.W.typeIn K (.ref C_BadKettles) = some (.type "type"))
    (ic_BadMoulds : PySem.W.isClsIn K C_BadMoulds = true)
    (it_BadMoulds : PySem.W.typeIn K (.ref C_BadMoulds) = some (.type "type"))
    (ic_BadRow : PySem.W.isClsIn K C_BadRow = true)
    (it_BadRow : PySem.W.typeIn K (.ref C_BadRow) = some (.type "type"))
    (ic_Cured : PySem.W.isClsIn K C_Cured = true)
    (it_Cured : PySem.W.typeIn K (.ref C_Cured) = some (.type "type"))
    (ic_NoHour : PySem.W.isClsIn K C_NoHour = true)
    (it_NoHour : PySem.W.typeIn K (.ref C_NoHour) = some (.type "type"))
    (ic_NoMould : PySem.W.isClsIn K C_NoMould = true)
    (it_NoMould : PySem.W.typeIn K (.ref C_NoMould) = some (.type "type"))
    (ic_NoSteady : PySem.W.isClsIn K C_NoSteady = true)
    (it_NoSteady : PySem.W.typeIn K (.ref C_NoSteady) = some (.type "type"))
    (ic_NoTelling : PySem.W.isClsIn K C_NoTelling = true)
    (it_NoTelling : PySem.W.typeIn K (.ref C_NoTelling) = some (.type "type"))
    (ic_NotCured : PySem.W.isClsIn K C_NotCured = true)
    (it_NotCured : PySem.W.typeIn K (.ref C_NotCured) = some (.type "type"))
    (ic_NotReady : PySem.W.isClsIn K C_NotReady = true)
    (it_NotReady : PySem.W.typeIn K (.ref C_NotReady) = some (.type "type"))
    (ic_TooStrong : PySem.W.isClsIn K C_TooStrong = true)
    (it_TooStrong : PySem.W.typeIn K (.ref C_TooStrong) = some (.type "type"))
    (ibx : PySem.W.subIn K (.ref C_BoilError) (.type "BaseException") = some true)
    (su_NoKettle_BoilError : PySem.W.subIn K (.ref C_NoKettle) (.ref C_BoilError) = some true)
    (su_NoRoom_BoilError : PySem.W.subIn K (.ref C_NoRoom) (.ref C_BoilError) = some true)
    (su_NoShare_BoilError : PySem.W.subIn K (.ref C_NoShare) (.ref C_BoilError) = some true)
    (su_Empty_BoilError : PySem.W.subIn K (.ref C_Empty) (.ref C_BoilError) = some true)
    (su_Same_BoilError : PySem.W.subIn K (.ref C_Same) (.ref C_BoilError) = some true)
    (su_Stopped_BoilError : PySem.W.subIn K (.ref C_Stopped) (.ref C_BoilError) = some true)
    (su_InWork_BoilError : PySem.W.subIn K (.ref C_InWork) (.ref C_BoilError) = some true)
    (su_NoKettle_NoKettle : PySem.W.subIn K (.ref C_NoKettle) (.ref C_NoKettle) = some true)
    (su_NoKettle_NoRoom : PySem.W.subIn K (.ref C_NoKettle) (.ref C_NoRoom) = some false)
    (su_NoKettle_NoShare : PySem.W.subIn K (.ref C_NoKettle) (.ref C_NoShare) = some false)
    (su_NoKettle_Empty : PySem.W.subIn K (.ref C_NoKettle) (.ref C_Empty) = some false)
    (su_NoKettle_Same : PySem.W.subIn K (.ref C_NoKettle) (.ref C_Same) = some false)
    (su_NoKettle_Stopped : PySem.W.subIn K (.ref C_NoKettle) (.ref C_Stopped) = some false)
    (su_NoKettle_InWork : PySem.W.subIn K (.ref C_NoKettle) (.ref C_InWork) = some false)
    (su_NoKettle_BadDeed : PySem.W.subIn K (.ref C_NoKettle) (.ref C_BadDeed) = some false)
    (su_NoKettle_BadFrac : PySem.W.subIn K (.ref C_NoKettle) (.ref C_BadFrac) = some false)
    (su_NoKettle_BadKettles : PySem.W.subIn K (.ref C_NoKettle) (.ref C_BadKettles) = some false)
    (su_NoKettle_BadMoulds : PySem.W.subIn K (.ref C_NoKettle) (.ref C_BadMoulds) = some false)
    (su_NoKettle_BadRow : PySem.W.subIn K (.ref C_NoKettle) (.ref C_BadRow) = some false)
    (su_NoKettle_Cured : PySem.W.subIn K (.ref C_NoKettle) (.ref C_Cured) = some false)
    (su_NoKettle_NoHour : PySem.W.subIn K (.ref C_NoKettle) (.ref C_NoHour) = some false)
    (su_NoKettle_NoMould : PySem.W.subIn K (.ref C_NoKettle) (.ref C_NoMould) = some false)
    (su_NoKettle_NoSteady : PySem.W.subIn K (.ref C_NoKettle) (.ref C_NoSteady) = some false)
    (su_NoKettle_NoTelling : PySem.W.subIn K (.ref C_NoKettle) (.ref C_NoTelling) = some false)
    (su_NoKettle_NotCured : PySem.W.subIn K (.ref C_NoKettle) (.ref C_NotCured) = some false)
    (su_NoKettle_NotReady : PySem.W.subIn K (.ref C_NoKettle) (.ref C_NotReady) = some false)
    (su_NoKettle_TooStrong : PySem.W.subIn K (.ref C_NoKettle) (.ref C_TooStrong) = some false)
    (su_NoRoom_NoKettle : PySem.W.subIn K (.ref C_NoRoom) (.ref C_NoKettle) = some false)
    (su_NoRoom_NoRoom : PySem.W.subIn K (.ref C_NoRoom) (.ref C_NoRoom) = some true)
    (su_NoRoom_NoShare : PySem.W.subIn K (.ref C_NoRoom) (.ref C_NoShare) = some false)
    (su_NoRoom_Empty : PySem.W.subIn K (.ref C_NoRoom) (.ref C_Empty) = some false)
    (su_NoRoom_Same : PySem.W.subIn K (.ref C_NoRoom) (.ref C_Same) = some false)
    (su_NoRoom_Stopped : PySem.W.subIn K (.ref C_NoRoom) (.ref C_Stopped) = some false)
    (su_NoRoom_InWork : PySem.W.subIn K (.ref C_NoRoom) (.ref C_InWork) = some false)
    (su_NoRoom_BadDeed : PySem.W.subIn K (.ref C_NoRoom) (.ref C_BadDeed) = some false)
    (su_NoRoom_BadFrac : PySem.W.subIn K (.ref C_NoRoom) (.ref C_BadFrac) = some false)
    (su_NoRoom_BadKettles : PySem.W.subIn K (.ref C_NoRoom) (.ref C_BadKettles) = some false)
    (su_NoRoom_BadMoulds : PySem.W.subIn K (.ref C_NoRoom) (.ref C_BadMoulds) = some false)
    (su_NoRoom_BadRow : PySem.W.subIn K (.ref C_NoRoom) (.ref C_BadRow) = some false)
    (su_NoRoom_Cured : PySem.W.subIn K (.ref C_NoRoom) (.ref C_Cured) = some false)
    (su_NoRoom_NoHour : PySem.W.subIn K (.ref C_NoRoom) (.ref C_NoHour) = some false)
    (su_NoRoom_NoMould : PySem.W.subIn K (.ref C_NoRoom) (.ref C_NoMould) = some false)
    (su_NoRoom_NoSteady : PySem.W.subIn K (.ref C_NoRoom) (.ref C_NoSteady) = some false)
    (su_NoRoom_NoTelling : PySem.W.subIn K (.ref C_NoRoom) (.ref C_NoTelling) = some false)
    (su_NoRoom_NotCured : PySem.W.subIn K (.ref C_NoRoom) (.ref C_NotCured) = some false)
    (su_NoRoom_NotReady : PySem.W.subIn K (.ref C_NoRoom) (.ref C_NotReady) = some false)
    (su_NoRoom_TooStrong : PySem.W.subIn K (.ref C_NoRoom) (.ref C_TooStrong) = some false)
    (su_NoShare_NoKettle : PySem.W.subIn K (.ref C_NoShare) (.ref C_NoKettle) = some false)
    (su_NoShare_NoRoom : PySem.W.subIn K (.ref C_NoShare) (.ref C_NoRoom) = some false)
    (su_NoShare_NoShare : PySem.W.subIn K (.ref C_NoShare) (.ref C_NoShare) = some true)
    (su_NoShare_Empty : PySem.W.subIn K (.ref C_NoShare) (.ref C_Empty) = some false)
    (su_NoShare_Same : PySem.W.subIn K (.ref C_NoShare) (.ref C_Same) = some false)
    (su_NoShare_Stopped : PySem.W.subIn K (.ref C_NoShare) (.ref C_Stopped) = some false)
    (su_NoShare_InWork : PySem.W.subIn K (.ref C_NoShare) (.ref C_InWork) = some false)
    (su_NoShare_BadDeed : PySem.W.subIn K (.ref C_NoShare) (.ref C_BadDeed) = some false)
    (su_NoShare_BadFrac : PySem.W.subIn K (.ref C_NoShare) (.ref C_BadFrac) = some false)
    (su_NoShare_BadKettles : PySem.W.subIn K (.ref C_NoShare) (.ref C_BadKettles) = some false)
    (su_NoShare_BadMoulds : PySem.W.subIn K (.ref C_NoShare) (.ref C_BadMoulds) = some false)
    (su_NoShare_BadRow : PySem.W.subIn K (.ref C_NoShare) (.ref C_BadRow) = some false)
    (su_NoShare_Cured : PySem.W.subIn K (.ref C_NoShare) (.ref C_Cured) = some false)
    (su_NoShare_NoHour : PySem.W.subIn K (.ref C_NoShare) (.ref C_NoHour) = some false)
    (su_NoShare_NoMould : PySem.W.subIn K (.ref C_NoShare) (.ref C_NoMould) = some false)
    (su_NoShare_NoSteady : PySem.W.subIn K (.ref C_NoShare) (.ref C_NoSteady) = some false)
    (su_NoShare_NoTelling : PySem.W.subIn K (.ref C_NoShare) (.ref C_NoTelling) = some false)
    (su_NoShare_NotCured : PySem.W.subIn K (.ref C_NoShare) (.ref C_NotCured) = some false)
    (su_NoShare_NotReady : PySem.W.subIn K (.ref C_NoShare) (.ref C_NotReady) = some false)
    (su_NoShare_TooStrong : PySem.W.subIn K (.ref C_NoShare) (.ref C_TooStrong) = some false)
    (su_Empty_NoKettle : PySem.W.subIn K (.ref C_Empty) (.ref C_NoKettle) = some false)
    (su_Empty_NoRoom : PySem.W.subIn K (.ref C_Empty) (.ref C_NoRoom) = some false)
    (su_Empty_NoShare : PySem.W.subIn K (.ref C_Empty) (.ref C_NoShare) = some false)
    (su_Empty_Empty : PySem.W.subIn K (.ref C_Empty) (.ref C_Empty) = some true)
    (su_Empty_Same : PySem.W.subIn K (.ref C_Empty) (.ref C_Same) = some false)
    (su_Empty_Stopped : PySem.W.subIn K (.ref C_Empty) (.ref C_Stopped) = some false)
    (su_Empty_InWork : PySem.W.subIn K (.ref C_Empty) (.ref C_InWork) = some false)
    (su_Empty_BadDeed : PySem.W.subIn K (.ref C_Empty) (.ref C_BadDeed) = some false)
    (su_Empty_BadFrac : PySem.W.subIn K (.ref C_Empty) (.ref C_BadFrac) = some false)
    (su_Empty_BadKettles : PySem.W.subIn K (.ref C_Empty) (.ref C_BadKettles) = some false)
    (su_Empty_BadMoulds : PySem.W.subIn K (.ref C_Empty) (.ref C_BadMoulds) = some false)
    (su_Empty_BadRow : PySem.W.subIn K (.ref C_Empty) (.ref C_BadRow) = some false)
    (su_Empty_Cured : PySem.W.subIn K (.ref C_Empty) (.ref C_Cured) = some false)
    (su_Empty_NoHour : PySem.W.subIn K (.ref C_Empty) (.ref C_NoHour) = some false)
    (su_Empty_NoMould : PySem.W.subIn K (.ref C_Empty) (.ref C_NoMould) = some false)
    (su_Empty_NoSteady : PySem.W.subIn K (.ref C_Empty) (.ref C_NoSteady) = some false)
    (su_Empty_NoTelling : PySem.W.subIn K (.ref C_Empty) (.ref C_NoTelling) = some false)
    (su_Empty_NotCured : PySem.W.subIn K (.ref C_Empty) (.ref C_NotCured) = some false)
    (su_Empty_NotReady : PySem.W.subIn K (.ref C_Empty) (.ref C_NotReady) = some false)
    (su_Empty_TooStrong : PySem.W.subIn K (.ref C_Empty) (.ref C_TooStrong) = some false)
    (su_Same_NoKettle : PySem.W.subIn K (.ref C_Same) (.ref C_NoKettle) = some false)
    (su_Same_NoRoom : PySem.W.subIn K (.ref C_Same) (.ref C_NoRoom) = some false)
    (su_Same_NoShare : PySem.W.subIn K (.ref C_Same) (.ref C_NoShare) = some false)
    (su_Same_Empty : PySem.W.subIn K (.ref C_Same) (.ref C_Empty) = some false)
    (su_Same_Same : PySem.W.subIn K (.ref C_Same) (.ref C_Same) = some true)
    (su_Same_Stopped : PySem.W.subIn K (.ref C_Same) (.ref C_Stopped) = some false)
    (su_Same_InWork : PySem.W.subIn K (.ref C_Same) (.ref C_InWork) = some false)
    (su_Same_BadDeed : PySem.W.subIn K (.ref C_Same) (.ref C_BadDeed) = some false)
    (su_Same_BadFrac : PySem.W.subIn K (.ref C_Same) (.ref C_BadFrac) = some false)
    (su_Same_BadKettles : PySem.W.subIn K (.ref C_Same) (.ref C_BadKettles) = some false)
    (su_Same_BadMoulds : PySem.W.subIn K (.ref C_Same) (.ref C_BadMoulds) = some false)
    (su_Same_BadRow : PySem.W.subIn K (.ref C_Same) (.ref C_BadRow) = some false)
    (su_Same_Cured : PySem.W.subIn K (.ref C_Same) (.ref C_Cured) = some false)
    (su_Same_NoHour : PySem.W.subIn K (.ref C_Same) (.ref C_NoHour) = some false)
    (su_Same_NoMould : PySem.W.subIn K (.ref C_Same) (.ref C_NoMould) = some false)
    (su_Same_NoSteady : PySem.W.subIn K (.ref C_Same) (.ref C_NoSteady) = some false)
    (su_Same_NoTelling : PySem.W.subIn K (.ref C_Same) (.ref C_NoTelling) = some false)
    (su_Same_NotCured : PySem.W.subIn K (.ref C_Same) (.ref C_NotCured) = some false)
    (su_Same_NotReady : PySem.W.subIn K (.ref C_Same) (.ref C_NotReady) = some false)
    (su_Same_TooStrong : PySem.W.subIn K (.ref C_Same) (.ref C_TooStrong) = some false)
    (su_Stopped_NoKettle : PySem.W.subIn K (.ref C_Stopped) (.ref C_NoKettle) = some false)
    (su_Stopped_NoRoom : PySem.W.subIn K (.ref C_Stopped) (.ref C_NoRoom) = some false)
    (su_Stopped_NoShare : PySem.W.subIn K (.ref C_Stopped) (.ref C_NoShare) = some false)
    (su_Stopped_Empty : PySem.W.subIn K (.ref C_Stopped) (.ref C_Empty) = some false)
    (su_Stopped_Same : PySem.W.subIn K (.ref C_Stopped) (.ref C_Same) = some false)
    (su_Stopped_Stopped : PySem.W.subIn K (.ref C_Stopped) (.ref C_Stopped) = some true)
    (su_Stopped_InWork : PySem.W.subIn K (.ref C_Stopped) (.ref C_InWork) = some false)
    (su_Stopped_BadDeed : PySem.W.subIn K (.ref C_Stopped) (.ref C_BadDeed) = some false)
    (su_Stopped_BadFrac : PySem.W.subIn K (.ref C_Stopped) (.ref C_BadFrac) = some false)
    (su_Stopped_BadKettles : PySem.W.subIn K (.ref C_Stopped) (.ref C_BadKettles) = some false)
    (su_Stopped_BadMoulds : PySem.W.subIn K (.ref C_Stopped) (.ref C_BadMoulds) = some false)
    (su_Stopped_BadRow : PySem.W.subIn K (.ref C_Stopped) (.ref C_BadRow) = some false)
    (su_Stopped_Cured : PySem.W.subIn K (.ref C_Stopped) (.ref C_Cured) = some false)
    (su_Stopped_NoHour : PySem.W.subIn K (.ref C_Stopped) (.ref C_NoHour) = some false)
    (su_Stopped_NoMould : PySem.W.subIn K (.ref C_Stopped) (.ref C_NoMould) = some false)
    (su_Stopped_NoSteady : PySem.W.subIn K (.ref C_Stopped) (.ref C_NoSteady) = some false)
    (su_Stopped_NoTelling : PySem.W.subIn K (.ref C_Stopped) (.ref C_NoTelling) = some false)
    (su_Stopped_NotCured : PySem.W.subIn K (.ref C_Stopped) (.ref C_NotCured) = some false)
    (su_Stopped_NotReady : PySem.W.subIn K (.ref C_Stopped) (.ref C_NotReady) = some false)
    (su_Stopped_TooStrong : PySem.W.subIn K (.ref C_Stopped) (.ref C_TooStrong) = some false)
    (su_InWork_NoKettle : PySem.W.subIn K (.ref C_InWork) (.ref C_NoKettle) = some false)
    (su_InWork_NoRoom : PySem.W.subIn K (.ref C_InWork) (.ref C_NoRoom) = some false)
    (su_InWork_NoShare : PySem.W.subIn K (.ref C_InWork) (.ref C_NoShare) = some false)
    (su_InWork_Empty : PySem.W.subIn K (.ref C_InWork) (.ref C_Empty) = some false)
    (su_InWork_Same : PySem.W.subIn K (.ref C_InWork) (.ref C_Same) = some false)
    (su_InWork_Stopped : PySem.W.subIn K (.ref C_InWork) (.ref C_Stopped) = some false)
    (su_InWork_InWork : PySem.W.subIn K (.ref C_InWork) (.ref C_InWork) = some true)
    (su_InWork_BadDeed : PySem.W.subIn K (.ref C_InWork) (.ref C_BadDeed) = some false)
    (su_InWork_BadFrac : PySem.W.subIn K (.ref C_InWork) (.ref C_BadFrac) = some false)
    (su_InWork_BadKettles : PySem.W.subIn K (.ref C_InWork) (.ref C_BadKettles) = some false)
    (su_InWork_BadMoulds : PySem.W.subIn K (.ref C_InWork) (.ref C_BadMoulds) = some false)
    (su_InWork_BadRow : PySem.W.subIn K (.ref C_InWork) (.ref C_BadRow) = some false)
    (su_InWork_Cured : PySem.W.subIn K (.ref C_InWork) (.ref C_Cured) = some false)
    (su_InWork_NoHour : PySem.W.subIn K (.ref C_InWork) (.ref C_NoHour) = some false)
    (su_InWork_NoMould : PySem.W.subIn K (.ref C_InWork) (.ref C_NoMould) = some false)
    (su_InWork_NoSteady : PySem.W.subIn K (.ref C_InWork) (.ref C_NoSteady) = some false)
    (su_InWork_NoTelling : PySem.W.subIn K (.ref C_InWork) (.ref C_NoTelling) = some false)
    (su_InWork_NotCured : PySem.W.subIn K (.ref C_InWork) (.ref C_NotCured) = some false)
    (su_InWork_NotReady : PySem.W.subIn K (.ref C_InWork) (.ref C_NotReady) = some false)
    (su_InWork_TooStrong : PySem.W.subIn K (.ref C_InWork) (.ref C_TooStrong) = some false)
    (ive_NoKettle : PySem.W.subIn K (.ref C_NoKettle) (.type "ValueError") = some true)
    (ive_NoRoom : PySem.W.subIn K (.ref C_NoRoom) (.type "ValueError") = some true)
    (ive_NoShare : PySem.W.subIn K (.ref C_NoShare) (.type "ValueError") = some true)
    (ive_Empty : PySem.W.subIn K (.ref C_Empty) (.type "ValueError") = some true)
    (ive_Same : PySem.W.subIn K (.ref C_Same) (.type "ValueError") = some true)
    (ive_Stopped : PySem.W.subIn K (.ref C_Stopped) (.type "ValueError") = some true)
    (ive_InWork : PySem.W.subIn K (.ref C_InWork) (.type "ValueError") = some true)
    {a_NOUGHT : Addr} {od_NOUGHT : Option Addr} {n_NOUGHT : Nat} {sl_NOUGHT : Array (Option Value)} {t_NOUGHT_0 t_NOUGHT_1 : Tok} (z_NOUGHT : PySem.W.nsIn K mainGlobals "NOUGHT" = some (some (.ref a_NOUGHT))) (l_NOUGHT : K.lookup a_NOUGHT = some ⟨.type "tuple", od_NOUGHT, .seq #[.int 0 t_NOUGHT_0, .int 1 t_NOUGHT_1] n_NOUGHT, sl_NOUGHT⟩)
    {a_ONE : Addr} {od_ONE : Option Addr} {n_ONE : Nat} {sl_ONE : Array (Option Value)} {t_ONE_0 t_ONE_1 : Tok} (z_ONE : PySem.W.nsIn K mainGlobals "ONE" = some (some (.ref a_ONE))) (l_ONE : K.lookup a_ONE = some ⟨.type "tuple", od_ONE, .seq #[.int 1 t_ONE_0, .int 1 t_ONE_1] n_ONE, sl_ONE⟩)
    {a_NOTHING x_NOTHING y_NOTHING : Addr} {od_NOTHING odx_NOTHING ody_NOTHING : Option Addr} {n_NOTHING nx_NOTHING ny_NOTHING : Nat} {sl_NOTHING slx_NOTHING sly_NOTHING : Array (Option Value)} {t1_NOTHING t2_NOTHING t3_NOTHING t4_NOTHING : Tok} (z_NOTHING : PySem.W.nsIn K mainGlobals "NOTHING" = some (some (.ref a_NOTHING))) (l_NOTHING : K.lookup a_NOTHING = some ⟨.type "tuple", od_NOTHING, .seq #[.ref x_NOTHING, .ref y_NOTHING] n_NOTHING, sl_NOTHING⟩) (lx_NOTHING : K.lookup x_NOTHING = some ⟨.type "tuple", odx_NOTHING, .seq #[.int 0 t1_NOTHING, .int 1 t2_NOTHING] nx_NOTHING, slx_NOTHING⟩) (ly_NOTHING : K.lookup y_NOTHING = some ⟨.type "tuple", ody_NOTHING, .seq #[.int 0 t3_NOTHING, .int 1 t4_NOTHING] ny_NOTHING, sly_NOTHING⟩)
    : ∃ (fd : FuncData) (cs : List (Addr × Addr)), (∀ p ∈ cs, ∃ y ∈ (["is_name", "_can_be_kettles", "_can_be_moulds"] : List Str), PySem.W.tabIn K y = some p) ∧ (∀ p ∈ cs, K.lookup p.2 = none) ∧ (∀ (s : Shared) (v : Value), BindsTo s fd ⟨[v], []⟩ [("_law_script", v)]) ∧ ∀ base : Heap, K.In base → base.Ns mainGlobals mg → (∀ p ∈ cs, GxR.TabB base mg p.1 p.2) → FnG l.prog w K mg base 12 fa fd ["_law_script"] (sp_p_law K (cs.map (·.2))) := by
  have e := hfa.symm.trans (PySem.W.mg_of X G a62)
  cases e
  have F0 := fun_mk (st := s_Kettles__named) l0 c0 k0
  have F1 := fun_mk (st := s_Kettles_boiled_off) l1 c1 k1
  have F2 := fun_mk (st := s_Kettles_juice_of) l2 c2 k2
  have F3 := fun_mk (st := s_Kettles_start) l3 c3 k3
  have F4 := fun_mk (st := s_Kettles_stop) l4 c4 k4
  have F5 := fun_mk (st := s_Kettles_skim) l5 c5 k5
  have F6 := fun_mk (st := s_Kettles_ladle) l6 c6 k6
  have F7 := fun_mk (st := s_Kettles_take_out) l7 c7 k7
  have F8 := fun_mk (st := s_Kettles_dip) l8 c8 k8
  have F9 := fun_mk (st := s_Kettles_pour) l9 c9 k9
  have F10 := fun_mk (st := s_Kettles_boil_on) l10 c10 k10
  have F11 := fun_mk (st := s_Kettles_init) l11 c11 k11
  have F12 := fun_mk (st := s_Kettle_boil) l12 c12 k12
  have F13 := fun_mk (st := s_Kettle_init) l13 c13 k13
  have F14 := fun_mk (st := s_SameRow_init) l14 c14 k14
  have F15 := fun_mk (st := s_Row_init) l15 c15 k15
  have F16 := fun_mk (st := s_p_is_number) l16 c16 k16
  have F17 := fun_mk (st := s_p_is_number_within) l17 c17 k17
  have F18 := fun_mk (st := s_p_is_frac) l18 c18 k18
  have F19 := fun_mk (st := s_p_frac_of) l19 c19 k19
  have F20 := fun_mk (st := s_p_sum_of) l20 c20 k20
  have F21 := fun_mk (st := s_p_difference) l21 c21 k21
  have F22 := fun_mk (st := s_p_product) l22 c22 k22
  have F23 := fun_mk (st := s_p_is_lesser) l23 c23 k23
  have F24 := fun_mk (st := s_p_mixed) l24 c24 k24
  have F25 := fun_mk (st := s_p_share_of) l25 c25 k25
  have F26 := fun_mk (st := s_p_rest_of) l26 c26 k26
  have F27 := fun_mk (st := s_p_volume_of) l27 c27 k27
  have F28 := fun_mk (st := s_p_water_at) l28 c28 k28
  have F29 := fun_mk (st := s_p_boiled_down) l29 c29 k29
  have F30 := fun_mk (st := s_p_is_name) l30 c30 k30
  have F31 := fun_mk (st := s_p_are_unlike) l31 c31 k31
  have F32 := fun_mk (st := s_p_is_kettle) l32 c32 k32
  have F33 := fun_mk (st := s_p_is_mould) l33 c33 k33
  have F34 := fun_mk (st := s_p__can_be_kettles) l34 c34 k34
  have F35 := fun_mk (st := s_p__can_be_moulds) l35 c35 k35
  have F36 := fun_mk (st := s_p__are_name_and_room) l36 c36 k36
  have F37 := fun_mk (st := s_p__is_mark) l37 c37 k37
  have F38 := fun_mk (st := s_p__is_drip) l38 c38 k38
  have F39 := fun_mk (st := s_p_need_share) l39 c39 k39
  have F40 := fun_mk (st := s_p_need_some) l40 c40 k40
  have F41 := fun_mk (st := s_p_poured_into) l41 c41 k41
  have F42 := fun_mk (st := s_l_cell_at) l42 c42 k42
  have F43 := fun_mk (st := s_l_box) l43 c43 k43
  have F44 := fun_mk (st := s_l_take) l44 c44 k44
  have F45 := fun_mk (st := s_l_names) l45 c45 k45
  have F46 := fun_mk (st := s_l_low) l46 c46 k46
  have F47 := fun_mk (st := s_l_plus) l47 c47 k47
  have F48 := fun_mk (st := s_l_by) l48 c48 k48
  have F49 := fun_mk (st := s_l_share) l49 c49 k49
  have F50 := fun_mk (st := s_l_row) l50 c50 k50
  have F51 := fun_mk (st := s_l_less) l51 c51 k51
  have F52 := fun_mk (st := s_l_begun) l52 c52 k52
  have F53 := fun_mk (st := s_l_ask) l53 c53 k53
  have F54 := fun_mk (st := s_l_told) l54 c54 k54
  have F55 := fun_mk (st := s_l_amount) l55 c55 k55
  have F56 := fun_mk (st := s_l_juice) l56 c56 k56
  have F57 := fun_mk (st := s_l_some_share) l57 c57 k57
  have F58 := fun_mk (st := s_l_name) l58 c58 k58
  have F59 := fun_mk (st := s_l_deed) l59 c59 k59
  have F60 := fun_mk (st := s_l_more) l60 c60 k60
  have F61 := fun_mk (st := s_l_sum_right) l61 c61 k61
  have F62 := fun_mk (st := s_p_law) l62 c62 k62
  have FI_NoKettle := fun_mk (st := s_init_NoKettle) xl_NoKettle xc_NoKettle xki_NoKettle
  have FI_NoRoom := fun_mk (st := s_init_NoRoom) xl_NoRoom xc_NoRoom xki_NoRoom
  have FI_NoShare := fun_mk (st := s_init_NoShare) xl_NoShare xc_NoShare xki_NoShare
  have FI_Empty := fun_mk (st := s_init_Empty) xl_Empty xc_Empty xki_Empty
  have FI_Same := fun_mk (st := s_init_Same) xl_Same xc_Same xki_Same
  have FI_Stopped := fun_mk (st := s_init_Stopped) xl_Stopped xc_Stopped xki_Stopped
  have FI_InWork := fun_mk (st := s_init_InWork) xl_InWork xc_InWork xki_InWork
  let T : All K mg := ⟨_, _, F0, F0.binds (ps := ["self", "name"]) fun _ _ _ _ _ _ us hl => match us, hl with | [_, _], _ => rfl, _, _, F1, F1.binds (ps := ["self"]) fun _ _ _ _ _ _ us hl => match us, hl with | [_], _ => rfl, _, _, F2, F2.binds (ps := ["self", "kettle"]) fun _ _ _ _ _ _ us hl => match us, hl with | [_, _], _ => rfl, _, _, F3, F3.binds (ps := ["self", "kettle"]) fun _ _ _ _ _ _ us hl => match us, hl with | [_, _], _ => rfl, _, _, F4, F4.binds (ps := ["self", "kettle"]) fun _ _ _ _ _ _ us hl => match us, hl with | [_, _], _ => rfl, _, _, F5, F5.binds (ps := ["self", "kettle", "share", "given", "other"]) fun _ _ _ _ _ _ us hl => match us, hl with | [_, _, _, _, _], _ => rfl, _, _, F6, F6.binds (ps := ["self", "one", "other", "share"]) fun _ _ _ _ _ _ us hl => match us, hl with | [_, _, _, _], _ => rfl, _, _, F7, F7.binds (ps := ["self", "kettle", "part"]) fun _ _ _ _ _ _ us hl => match us, hl with | [_, _, _], _ => rfl, _, _, F8, F8.binds (ps := ["self", "kettle", "share"]) fun _ _ _ _ _ _ us hl => match us, hl with | [_, _, _], _ => rfl, _, _, F9, F9.binds (ps := ["self", "kettle", "juice"]) fun _ _ _ _ _ _ us hl => match us, hl with | [_, _, _], _ => rfl, _, _, F10, F10.binds (ps := ["self", "hours"]) fun _ _ _ _ _ _ us hl => match us, hl with | [_, _], _ => rfl, _, _, F11, F11.binds (ps := ["self", "row"]) fun _ _ _ _ _ _ us hl => match us, hl with | [_, _], _ => rfl, _, _, F12, F12.binds (ps := ["self", "hours"]) fun _ _ _ _ _ _ us hl => match us, hl with | [_, _], _ => rfl, _, _, F13, F13.binds (ps := ["self", "room", "fire", "mark"]) fun _ _ _ _ _ _ us hl => match us, hl with | [_, _, _, _], _ => rfl, _, _, F14, F14.binds (ps := ["self", "row"]) fun _ _ _ _ _ _ us hl => match us, hl with | [_, _], _ => rfl, _, _, F15, F15.binds (ps := ["self", "kettles", "moulds"]) fun _ _ _ _ _ _ us hl => match us, hl with | [_, _, _], _ => rfl, _, _, ⟨F16, PySem.W.mg_of X G a16, F16.binds (ps := ["thing"]) fun _ _ _ _ _ _ us hl => match us, hl with | [_], _ => rfl⟩, _, _, ⟨F17, PySem.W.mg_of X G a17, F17.binds (ps := ["thing", "least", "most"]) fun _ _ _ _ _ _ us hl => match us, hl with | [_, _, _], _ => rfl⟩, _, _, ⟨F18, PySem.W.mg_of X G a18, F18.binds (ps := ["thing"]) fun _ _ _ _ _ _ us hl => match us, hl with | [_], _ => rfl⟩, _, _, ⟨F19, PySem.W.mg_of X G a19, F19.binds (ps := ["top", "bottom"]) fun _ _ _ _ _ _ us hl => match us, hl with | [_, _], _ => rfl⟩, _, _, ⟨F20, PySem.W.mg_of X G a20, F20.binds (ps := ["one", "other"]) fun _ _ _ _ _ _ us hl => match us, hl with | [_, _], _ => rfl⟩, _, _, ⟨F21, PySem.W.mg_of X G a21, F21.binds (ps := ["one", "other"]) fun _ _ _ _ _ _ us hl => match us, hl with | [_, _], _ => rfl⟩, _, _, ⟨F22, PySem.W.mg_of X G a22, F22.binds (ps := ["one", "other"]) fun _ _ _ _ _ _ us hl => match us, hl with | [_, _], _ => rfl⟩, _, _, ⟨F23, PySem.W.mg_of X G a23, F23.binds (ps := ["one", "other"]) fun _ _ _ _ _ _ us hl => match us, hl with | [_, _], _ => rfl⟩, _, _, ⟨F24, PySem.W.mg_of X G a24, F24.binds (ps := ["one", "other"]) fun _ _ _ _ _ _ us hl => match us, hl with | [_, _], _ => rfl⟩, _, _, ⟨F25, PySem.W.mg_of X G a25, F25.binds (ps := ["juice", "share"]) fun _ _ _ _ _ _ us hl => match us, hl with | [_, _], _ => rfl⟩, _, _, ⟨F26, PySem.W.mg_of X G a26, F26.binds (ps := ["juice", "share"]) fun _ _ _ _ _ _ us hl => match us, hl with | [_, _], _ => rfl⟩, _, _, ⟨F27, PySem.W.mg_of X G a27, F27.binds (ps := ["juice"]) fun _ _ _ _ _ _ us hl => match us, hl with | [_], _ => rfl⟩, _, _, ⟨F28, PySem.W.mg_of X G a28, F28.binds (ps := ["sugar", "mark"]) fun _ _ _ _ _ _ us hl => match us, hl with | [_, _], _ => rfl⟩, _, _, ⟨F29, PySem.W.mg_of X G a29, F29.binds (ps := ["juice", "fire", "mark", "hours"]) fun _ _ _ _ _ _ us hl => match us, hl with | [_, _, _, _], _ => rfl⟩, _, _, ⟨F30, PySem.W.mg_of X G a30, F30.binds (ps := ["thing"]) fun _ _ _ _ _ _ us hl => match us, hl with | [_], _ => rfl⟩, _, _, ⟨F31, PySem.W.mg_of X G a31, F31.binds (ps := ["names"]) fun _ _ _ _ _ _ us hl => match us, hl with | [_], _ => rfl⟩, _, _, ⟨F32, PySem.W.mg_of X G a32, F32.binds (ps := ["thing"]) fun _ _ _ _ _ _ us hl => match us, hl with | [_], _ => rfl⟩, _, _, ⟨F33, PySem.W.mg_of X G a33, F33.binds (ps := ["thing"]) fun _ _ _ _ _ _ us hl => match us, hl with | [_], _ => rfl⟩, _, _, ⟨F34, PySem.W.mg_of X G a34, F34.binds (ps := ["things"]) fun _ _ _ _ _ _ us hl => match us, hl with | [_], _ => rfl⟩, _, _, ⟨F35, PySem.W.mg_of X G a35, F35.binds (ps := ["things", "kettles"]) fun _ _ _ _ _ _ us hl => match us, hl with | [_, _], _ => rfl⟩, _, _, ⟨F36, PySem.W.mg_of X G a36, F36.binds (ps := ["name", "room"]) fun _ _ _ _ _ _ us hl => match us, hl with | [_, _], _ => rfl⟩, _, _, ⟨F37, PySem.W.mg_of X G a37, F37.binds (ps := ["thing"]) fun _ _ _ _ _ _ us hl => match us, hl with | [_], _ => rfl⟩, _, _, ⟨F38, PySem.W.mg_of X G a38, F38.binds (ps := ["thing"]) fun _ _ _ _ _ _ us hl => match us, hl with | [_], _ => rfl⟩, _, _, ⟨F39, PySem.W.mg_of X G a39, F39.binds (ps := ["share"]) fun _ _ _ _ _ _ us hl => match us, hl with | [_], _ => rfl⟩, _, _, ⟨F40, PySem.W.mg_of X G a40, F40.binds (ps := ["name", "juice"]) fun _ _ _ _ _ _ us hl => match us, hl with | [_, _], _ => rfl⟩, _, _, ⟨F41, PySem.W.mg_of X G a41, F41.binds (ps := ["name", "room", "juice", "more"]) fun _ _ _ _ _ _ us hl => match us, hl with | [_, _, _, _], _ => rfl⟩, _, _, ⟨F42, PySem.W.mg_of X G a42, F42.binds (ps := ["_law_script", "_law_k"]) fun _ _ _ _ _ _ us hl => match us, hl with | [_, _], _ => rfl⟩, _, _, ⟨F43, PySem.W.mg_of X G a43, F43.binds (ps := ["_law_script", "_law_k"]) fun _ _ _ _ _ _ us hl => match us, hl with | [_, _], _ => rfl⟩, _, _, ⟨F44, PySem.W.mg_of X G a44, F44.binds (ps := ["_law_box_here", "_law_many"]) fun _ _ _ _ _ _ us hl => match us, hl with | [_, _], _ => rfl⟩, _, _, ⟨F45, PySem.W.mg_of X G a45, F45.binds (ps := ["_law_box_here", "_law_many"]) fun _ _ _ _ _ _ us hl => match us, hl with | [_, _], _ => rfl⟩, _, _, ⟨F46, PySem.W.mg_of X G a46, F46.binds (ps := ["_law_top", "_law_bottom"]) fun _ _ _ _ _ _ us hl => match us, hl with | [_, _], _ => rfl⟩, _, _, ⟨F47, PySem.W.mg_of X G a47, F47.binds (ps := ["_law_one", "_law_other"]) fun _ _ _ _ _ _ us hl => match us, hl with | [_, _], _ => rfl⟩, _, _, ⟨F48, PySem.W.mg_of X G a48, F48.binds (ps := ["_law_one", "_law_other"]) fun _ _ _ _ _ _ us hl => match us, hl with | [_, _], _ => rfl⟩, _, _, ⟨F49, PySem.W.mg_of X G a49, F49.binds (ps := ["_law_box_here"]) fun _ _ _ _ _ _ us hl => match us, hl with | [_], _ => rfl⟩, _, _, ⟨F50, PySem.W.mg_of X G a50, F50.binds (ps := ["_law_box_here", "_law_kettles", "_law_moulds"]) fun _ _ _ _ _ _ us hl => match us, hl with | [_, _, _], _ => rfl⟩, _, _, ⟨F51, PySem.W.mg_of X G a51, F51.binds (ps := ["_law_one", "_law_other"]) fun _ _ _ _ _ _ us hl => match us, hl with | [_, _], _ => rfl⟩, _, _, ⟨F52, PySem.W.mg_of X G a52, F52.binds (ps := ["_law_box_here", "_law_many"]) fun _ _ _ _ _ _ us hl => match us, hl with | [_, _], _ => rfl⟩, _, _, ⟨F53, PySem.W.mg_of X G a53, F53.binds (ps := ["_law_kettles", "_law_deed_here"]) fun _ _ _ _ _ _ us hl => match us, hl with | [_, _], _ => rfl⟩, _, _, ⟨F54, PySem.W.mg_of X G a54, F54.binds (ps := ["_law_kettles", "_law_deed_here"]) fun _ _ _ _ _ _ us hl => match us, hl with | [_, _], _ => rfl⟩, _, _, ⟨F55, PySem.W.mg_of X G a55, F55.binds (ps := ["_law_box_here", "_law_most"]) fun _ _ _ _ _ _ us hl => match us, hl with | [_, _], _ => rfl⟩, _, _, ⟨F56, PySem.W.mg_of X G a56, F56.binds (ps := ["_law_box_here", "_law_row_here"]) fun _ _ _ _ _ _ us hl => match us, hl with | [_, _], _ => rfl⟩, _, _, ⟨F57, PySem.W.mg_of X G a57, F57.binds (ps := ["_law_box_here"]) fun _ _ _ _ _ _ us hl => match us, hl with | [_], _ => rfl⟩, _, _, ⟨F58, PySem.W.mg_of X G a58, F58.binds (ps := ["_law_box_here", "_law_state"]) fun _ _ _ _ _ _ us hl => match us, hl with | [_, _], _ => rfl⟩, _, _, ⟨F59, PySem.W.mg_of X G a59, F59.binds (ps := ["_law_box_here", "_law_state", "_law_some"]) fun _ _ _ _ _ _ us hl => match us, hl with | [_, _, _], _ => rfl⟩, _, _, ⟨F60, PySem.W.mg_of X G a60, F60.binds (ps := ["_law_whole", "_law_juice_here"]) fun _ _ _ _ _ _ us hl => match us, hl with | [_, _], _ => rfl⟩, _, _, ⟨F61, PySem.W.mg_of X G a61, F61.binds (ps := ["_law_kettles", "_law_state", "_law_came", "_law_out"]) fun _ _ _ _ _ _ us hl => match us, hl with | [_, _, _, _], _ => rfl⟩, _, _, ⟨F62, PySem.W.mg_of X G a62, F62.binds (ps := ["_law_script"]) fun _ _ _ _ _ _ us hl => match us, hl with | [_], _ => rfl⟩, PySem.W.mg_none_of X G z_ValueError, PySem.W.mg_none_of X G z_abs, PySem.W.mg_none_of X G z_all, PySem.W.mg_none_of X G z_bool, PySem.W.mg_none_of X G z_dict, PySem.W.mg_none_of X G z_divmod, PySem.W.mg_none_of X G z_int, PySem.W.mg_none_of X G z_isinstance, PySem.W.mg_none_of X G z_len, PySem.W.mg_none_of X G z_list, PySem.W.mg_none_of X G z_max, PySem.W.mg_none_of X G z_min, PySem.W.mg_none_of X G z_range, PySem.W.mg_none_of X G z_set, PySem.W.mg_none_of X G z_str, PySem.W.mg_none_of X G z_tuple, PySem.W.mg_of X G z_gcd, _, PySem.W.mg_of X G z_MOST_LETTERS, _, PySem.W.mg_of X G z_MOST_KETTLES, _, PySem.W.mg_of X G z_MOST_MOULDS, _, PySem.W.mg_of X G z_MOST_ROOM, _, PySem.W.mg_of X G z_MOST_FIRE, _, PySem.W.mg_of X G z_MOST_MARK_BOTTOM, _, PySem.W.mg_of X G z_MOST_DRIP_BOTTOM, _, PySem.W.mg_of X G z_MOST_BOTTOM, _, PySem.W.mg_of X G y_BoilError, _, PySem.W.mg_of X G y_NoKettle, _, PySem.W.mg_of X G y_NoRoom, _, PySem.W.mg_of X G y_NoShare, _, PySem.W.mg_of X G y_Empty, _, PySem.W.mg_of X G y_Same, _, PySem.W.mg_of X G y_Stopped, _, PySem.W.mg_of X G y_InWork, _, PySem.W.mg_of X G y_BadDeed, _, PySem.W.mg_of X G y_BadFrac, _, PySem.W.mg_of X G y_BadKettles, _, PySem.W.mg_of X G y_BadMoulds, _, PySem.W.mg_of X G y_BadRow, _, PySem.W.mg_of X G y_Cured, _, PySem.W.mg_of X G y_NoHour, _, PySem.W.mg_of X G y_NoMould, _, PySem.W.mg_of X G y_NoSteady, _, PySem.W.mg_of X G y_NoTelling, _, PySem.W.mg_of X G y_NotCured, _, PySem.W.mg_of X G y_NotReady, _, PySem.W.mg_of X G y_TooStrong, ⟨⟨_, _, _, _, _, _, _, _, _, _, _, _, _, _, _, xL_NoKettle, rfl⟩, xsa_NoKettle, xex_NoKettle, xty_NoKettle, xk_NoKettle⟩, _, _, xi_NoKettle, xti_NoKettle, FI_NoKettle, FI_NoKettle.binds (ps := ["self", "what"]) fun _ _ _ _ _ _ us hl => match us, hl with | [_, _], _ => rfl, ⟨ecl_NoKettle, ega_NoKettle, egg_NoKettle, xex_NoKettle, ecs_NoKettle, ege_NoKettle, etk_NoKettle, eob_NoKettle, edi_NoKettle, efl_NoKettle⟩, ⟨⟨_, t2_NoKettle, xL_NoKettle, rfl, rfl⟩, ern_NoKettle, efw_NoKettle, efc_NoKettle⟩, ⟨⟨_, _, _, _, _, _, _, _, _, _, _, _, _, _, _, xL_NoRoom, rfl⟩, xsa_NoRoom, xex_NoRoom, xty_NoRoom, xk_NoRoom⟩, _, _, xi_NoRoom, xti_NoRoom, FI_NoRoom, FI_NoRoom.binds (ps := ["self", "what"]) fun _ _ _ _ _ _ us hl => match us, hl with | [_, _], _ => rfl, ⟨ecl_NoRoom, ega_NoRoom, egg_NoRoom, xex_NoRoom, ecs_NoRoom, ege_NoRoom, etk_NoRoom, eob_NoRoom, edi_NoRoom, efl_NoRoom⟩, ⟨⟨_, t2_NoRoom, xL_NoRoom, rfl, rfl⟩, ern_NoRoom, efw_NoRoom, efc_NoRoom⟩, ⟨⟨_, _, _, _, _, _, _, _, _, _, _, _, _, _, _, xL_NoShare, rfl⟩, xsa_NoShare, xex_NoShare, xty_NoShare, xk_NoShare⟩, _, _, xi_NoShare, xti_NoShare, FI_NoShare, FI_NoShare.binds (ps := ["self", "what"]) fun _ _ _ _ _ _ us hl => match us, hl with | [_, _], _ => rfl, ⟨ecl_NoShare, ega_NoShare, egg_NoShare, xex_NoShare, ecs_NoShare, ege_NoShare, etk_NoShare, eob_NoShare, edi_NoShare, efl_NoShare⟩, ⟨⟨_, t2_NoShare, xL_NoShare, rfl, rfl⟩, ern_NoShare, efw_NoShare, efc_NoShare⟩, ⟨⟨_, _, _, _, _, _, _, _, _, _, _, _, _, _, _, xL_Empty, rfl⟩, xsa_Empty, xex_Empty, xty_Empty, xk_Empty⟩, _, _, xi_Empty, xti_Empty, FI_Empty, FI_Empty.binds (ps := ["self", "what"]) fun _ _ _ _ _ _ us hl => match us, hl with | [_, _], _ => rfl, ⟨ecl_Empty, ega_Empty, egg_Empty, xex_Empty, ecs_Empty, ege_Empty, etk_Empty, eob_Empty, edi_Empty, efl_Empty⟩, ⟨⟨_, t2_Empty, xL_Empty, rfl, rfl⟩, ern_Empty, efw_Empty, efc_Empty⟩, ⟨⟨_, _, _, _, _, _, _, _, _, _, _, _, _, _, _, xL_Same, rfl⟩, xsa_Same, xex_Same, xty_Same, xk_Same⟩, _, _, xi_Same, xti_Same, FI_Same, FI_Same.binds (ps := ["self", "what"]) fun _ _ _ _ _ _ us hl => match us, hl with | [_, _], _ => rfl, ⟨ecl_Same, ega_Same, egg_Same, xex_Same, ecs_Same, ege_Same, etk_Same, eob_Same, edi_Same, efl_Same⟩, ⟨⟨_, t2_Same, xL_Same, rfl, rfl⟩, ern_Same, efw_Same, efc_Same⟩, ⟨⟨_, _, _, _, _, _, _, _, _, _, _, _, _, _, _, xL_Stopped, rfl⟩, xsa_Stopped, xex_Stopped, xty_Stopped, xk_Stopped⟩, _, _, xi_Stopped, xti_Stopped, FI_Stopped, FI_Stopped.binds (ps := ["self", "what"]) fun _ _ _ _ _ _ us hl => match us, hl with | [_, _], _ => rfl, ⟨ecl_Stopped, ega_Stopped, egg_Stopped, xex_Stopped, ecs_Stopped, ege_Stopped, etk_Stopped, eob_Stopped, edi_Stopped, efl_Stopped⟩, ⟨⟨_, t2_Stopped, xL_Stopped, rfl, rfl⟩, ern_Stopped, efw_Stopped, efc_Stopped⟩, ⟨⟨_, _, _, _, _, _, _, _, _, _, _, _, _, _, _, xL_InWork, rfl⟩, xsa_InWork, xex_InWork, xty_InWork, xk_InWork⟩, _, _, xi_InWork, xti_InWork, FI_InWork, FI_InWork.binds (ps := ["self", "what"]) fun _ _ _ _ _ _ us hl => match us, hl with | [_, _], _ => rfl, ⟨ecl_InWork, ega_InWork, egg_InWork, xex_InWork, ecs_InWork, ege_InWork, etk_InWork, eob_InWork, edi_InWork, efl_InWork⟩, ⟨⟨_, t2_InWork, xL_InWork, rfl, rfl⟩, ern_InWork, efw_InWork, efc_InWork⟩, exm_own ibx ic_BoilError it_BoilError su_NoKettle_BoilError, exm_own ibx ic_BoilError it_BoilError su_NoRoom_BoilError, exm_own ibx ic_BoilError it_BoilError su_NoShare_BoilError, exm_own ibx ic_BoilError it_BoilError su_Empty_BoilError, exm_own ibx ic_BoilError it_BoilError su_Same_BoilError, exm_own ibx ic_BoilError it_BoilError su_Stopped_BoilError, exm_own ibx ic_BoilError it_BoilError su_InWork_BoilError, kit_own ecl_NoKettle xty_NoKettle su_NoKettle_NoKettle su_NoKettle_NoKettle, kit_own ecl_NoRoom xty_NoRoom su_NoKettle_NoRoom su_NoKettle_NoKettle, kit_own ecl_NoShare xty_NoShare su_NoKettle_NoShare su_NoKettle_NoKettle, kit_own ecl_Empty xty_Empty su_NoKettle_Empty su_NoKettle_NoKettle, kit_own ecl_Same xty_Same su_NoKettle_Same su_NoKettle_NoKettle, kit_own ecl_Stopped xty_Stopped su_NoKettle_Stopped su_NoKettle_NoKettle, kit_own ecl_InWork xty_InWork su_NoKettle_InWork su_NoKettle_NoKettle, kit_own ic_BadDeed it_BadDeed su_NoKettle_BadDeed su_NoKettle_NoKettle, kit_own ic_BadFrac it_BadFrac su_NoKettle_BadFrac su_NoKettle_NoKettle, kit_own ic_BadKettles it_BadKettles su_NoKettle_BadKettles su_NoKettle_NoKettle, kit_own ic_BadMoulds it_BadMoulds su_NoKettle_BadMoulds su_NoKettle_NoKettle, kit_own ic_BadRow it_BadRow su_NoKettle_BadRow su_NoKettle_NoKettle, kit_own ic_Cured it_Cured su_NoKettle_Cured su_NoKettle_NoKettle, kit_own ic_NoHour it_NoHour su_NoKettle_NoHour su_NoKettle_NoKettle, kit_own ic_NoMould it_NoMould su_NoKettle_NoMould su_NoKettle_NoKettle, kit_own ic_NoSteady it_NoSteady su_NoKettle_NoSteady su_NoKettle_NoKettle, kit_own ic_NoTelling it_NoTelling su_NoKettle_NoTelling su_NoKettle_NoKettle, kit_own ic_NotCured it_NotCured su_NoKettle_NotCured su_NoKettle_NoKettle, kit_own ic_NotReady it_NotReady su_NoKettle_NotReady su_NoKettle_NoKettle, kit_own ic_TooStrong it_TooStrong su_NoKettle_TooStrong su_NoKettle_NoKettle, kit_own ecl_NoKettle xty_NoKettle su_NoRoom_NoKettle su_NoRoom_NoRoom, kit_own ecl_NoRoom xty_NoRoom su_NoRoom_NoRoom su_NoRoom_NoRoom, kit_own ecl_NoShare xty_NoShare su_NoRoom_NoShare su_NoRoom_NoRoom, kit_own ecl_Empty xty_Empty su_NoRoom_Empty su_NoRoom_NoRoom, kit_own ecl_Same xty_Same su_NoRoom_Same su_NoRoom_NoRoom, kit_own ecl_Stopped xty_Stopped su_NoRoom_Stopped su_NoRoom_NoRoom, kit_own ecl_InWork xty_InWork su_NoRoom_InWork su_NoRoom_NoRoom, kit_own ic_BadDeed it_BadDeed su_NoRoom_BadDeed su_NoRoom_NoRoom, kit_own ic_BadFrac it_BadFrac su_NoRoom_BadFrac su_NoRoom_NoRoom, kit_own ic_BadKettles it_BadKettles su_NoRoom_BadKettles su_NoRoom_NoRoom, kit_own ic_BadMoulds it_BadMoulds su_NoRoom_BadMoulds su_NoRoom_NoRoom, kit_own ic_BadRow it_BadRow su_NoRoom_BadRow su_NoRoom_NoRoom, kit_own ic_Cured it_Cured su_NoRoom_Cured su_NoRoom_NoRoom, kit_own ic_NoHour it_NoHour su_NoRoom_NoHour su_NoRoom_NoRoom, kit_own ic_NoMould it_NoMould su_NoRoom_NoMould su_NoRoom_NoRoom, kit_own ic_NoSteady it_NoSteady su_NoRoom_NoSteady su_NoRoom_NoRoom, kit_own ic_NoTelling it_NoTelling su_NoRoom_NoTelling su_NoRoom_NoRoom, kit_own ic_NotCured it_NotCured su_NoRoom_NotCured su_NoRoom_NoRoom, kit_own ic_NotReady it_NotReady su_NoRoom_NotReady su_NoRoom_NoRoom, kit_own ic_TooStrong it_TooStrong su_NoRoom_TooStrong su_NoRoom_NoRoom, kit_own ecl_NoKettle xty_NoKettle su_NoShare_NoKettle su_NoShare_NoShare, kit_own ecl_NoRoom xty_NoRoom su_NoShare_NoRoom su_NoShare_NoShare, kit_own ecl_NoShare xty_NoShare su_NoShare_NoShare su_NoShare_NoShare, kit_own ecl_Empty xty_Empty su_NoShare_Empty su_NoShare_NoShare, kit_own ecl_Same xty_Same su_NoShare_Same su_NoShare_NoShare, kit_own ecl_Stopped xty_Stopped su_NoShare_Stopped su_NoShare_NoShare, kit_own ecl_InWork xty_InWork su_NoShare_InWork su_NoShare_NoShare, kit_own ic_BadDeed it_BadDeed su_NoShare_BadDeed su_NoShare_NoShare, kit_own ic_BadFrac it_BadFrac su_NoShare_BadFrac su_NoShare_NoShare, kit_own ic_BadKettles it_BadKettles su_NoShare_BadKettles su_NoShare_NoShare, kit_own ic_BadMoulds it_BadMoulds su_NoShare_BadMoulds su_NoShare_NoShare, kit_own ic_BadRow it_BadRow su_NoShare_BadRow su_NoShare_NoShare, kit_own ic_Cured it_Cured su_NoShare_Cured su_NoShare_NoShare, kit_own ic_NoHour it_NoHour su_NoShare_NoHour su_NoShare_NoShare, kit_own ic_NoMould it_NoMould su_NoShare_NoMould su_NoShare_NoShare, kit_own ic_NoSteady it_NoSteady su_NoShare_NoSteady su_NoShare_NoShare, kit_own ic_NoTelling it_NoTelling su_NoShare_NoTelling su_NoShare_NoShare, kit_own ic_NotCured it_NotCured su_NoShare_NotCured su_NoShare_NoShare, kit_own ic_NotReady it_NotReady su_NoShare_NotReady su_NoShare_NoShare, kit_own ic_TooStrong it_TooStrong su_NoShare_TooStrong su_NoShare_NoShare, kit_own ecl_NoKettle xty_NoKettle su_Empty_NoKettle su_Empty_Empty, kit_own ecl_NoRoom xty_NoRoom su_Empty_NoRoom su_Empty_Empty, kit_own ecl_NoShare xty_NoShare su_Empty_NoShare su_Empty_Empty, kit_own ecl_Empty xty_Empty su_Empty_Empty su_Empty_Empty, kit_own ecl_Same xty_Same su_Empty_Same su_Empty_Empty, kit_own ecl_Stopped xty_Stopped su_Empty_Stopped su_Empty_Empty, kit_own ecl_InWork xty_InWork su_Empty_InWork su_Empty_Empty, kit_own ic_BadDeed it_BadDeed su_Empty_BadDeed su_Empty_Empty, kit_own ic_BadFrac it_BadFrac su_Empty_BadFrac su_Empty_Empty, kit_own ic_BadKettles it_BadKettles su_Empty_BadKettles su_Empty_Empty, kit_own ic_BadMoulds it_BadMoulds su_Empty_BadMoulds su_Empty_Empty, kit_own ic_BadRow it_BadRow su_Empty_BadRow su_Empty_Empty, kit_own ic_Cured it_Cured su_Empty_Cured su_Empty_Empty, kit_own ic_NoHour it_NoHour su_Empty_NoHour su_Empty_Empty, kit_own ic_NoMould it_NoMould su_Empty_NoMould su_Empty_Empty, kit_own ic_NoSteady it_NoSteady su_Empty_NoSteady su_Empty_Empty, kit_own ic_NoTelling it_NoTelling su_Empty_NoTelling su_Empty_Empty, kit_own ic_NotCured it_NotCured su_Empty_NotCured su_Empty_Empty, kit_own ic_NotReady it_NotReady su_Empty_NotReady su_Empty_Empty, kit_own ic_TooStrong it_TooStrong su_Empty_TooStrong su_Empty_Empty, kit_own ecl_NoKettle xty_NoKettle su_Same_NoKettle su_Same_Same, kit_own ecl_NoRoom xty_NoRoom su_Same_NoRoom su_Same_Same, kit_own ecl_NoShare xty_NoShare su_Same_NoShare su_Same_Same, kit_own ecl_Empty xty_Empty su_Same_Empty su_Same_Same, kit_own ecl_Same xty_Same su_Same_Same su_Same_Same, kit_own ecl_Stopped xty_Stopped su_Same_Stopped su_Same_Same, kit_own ecl_InWork xty_InWork su_Same_InWork su_Same_Same, kit_own ic_BadDeed it_BadDeed su_Same_BadDeed su_Same_Same, kit_own ic_BadFrac it_BadFrac su_Same_BadFrac su_Same_Same, kit_own ic_BadKettles it_BadKettles su_Same_BadKettles su_Same_Same, kit_own ic_BadMoulds it_BadMoulds su_Same_BadMoulds su_Same_Same, kit_own ic_BadRow it_BadRow su_Same_BadRow su_Same_Same, kit_own ic_Cured it_Cured su_Same_Cured su_Same_Same, kit_own ic_NoHour it_NoHour su_Same_NoHour su_Same_Same, kit_own ic_NoMould it_NoMould su_Same_NoMould su_Same_Same, kit_own ic_NoSteady it_NoSteady su_Same_NoSteady su_Same_Same, kit_own ic_NoTelling it_NoTelling su_Same_NoTelling su_Same_Same, kit_own ic_NotCured it_NotCured su_Same_NotCured su_Same_Same, kit_own ic_NotReady it_NotReady su_Same_NotReady su_Same_Same, kit_own ic_TooStrong it_TooStrong su_Same_TooStrong su_Same_Same, kit_own ecl_NoKettle xty_NoKettle su_Stopped_NoKettle su_Stopped_Stopped, kit_own ecl_NoRoom xty_NoRoom su_Stopped_NoRoom su_Stopped_Stopped, kit_own ecl_NoShare xty_NoShare su_Stopped_NoShare su_Stopped_Stopped, kit_own ecl_Empty xty_Empty su_Stopped_Empty su_Stopped_Stopped, kit_own ecl_Same xty_Same su_Stopped_Same su_Stopped_Stopped, kit_own ecl_Stopped xty_Stopped su_Stopped_Stopped su_Stopped_Stopped, kit_own ecl_InWork xty_InWork su_Stopped_InWork su_Stopped_Stopped, kit_own ic_BadDeed it_BadDeed su_Stopped_BadDeed su_Stopped_Stopped, kit_own ic_BadFrac it_BadFrac su_Stopped_BadFrac su_Stopped_Stopped, kit_own ic_BadKettles it_BadKettles su_Stopped_BadKettles su_Stopped_Stopped, kit_own ic_BadMoulds it_BadMoulds su_Stopped_BadMoulds su_Stopped_Stopped, kit_own ic_BadRow it_BadRow su_Stopped_BadRow su_Stopped_Stopped, kit_own ic_Cured it_Cured su_Stopped_Cured su_Stopped_Stopped, kit_own ic_NoHour it_NoHour su_Stopped_NoHour su_Stopped_Stopped, kit_own ic_NoMould it_NoMould su_Stopped_NoMould su_Stopped_Stopped, kit_own ic_NoSteady it_NoSteady su_Stopped_NoSteady su_Stopped_Stopped, kit_own ic_NoTelling it_NoTelling su_Stopped_NoTelling su_Stopped_Stopped, kit_own ic_NotCured it_NotCured su_Stopped_NotCured su_Stopped_Stopped, kit_own ic_NotReady it_NotReady su_Stopped_NotReady su_Stopped_Stopped, kit_own ic_TooStrong it_TooStrong su_Stopped_TooStrong su_Stopped_Stopped, kit_own ecl_NoKettle xty_NoKettle su_InWork_NoKettle su_InWork_InWork, kit_own ecl_NoRoom xty_NoRoom su_InWork_NoRoom su_InWork_InWork, kit_own ecl_NoShare xty_NoShare su_InWork_NoShare su_InWork_InWork, kit_own ecl_Empty xty_Empty su_InWork_Empty su_InWork_InWork, kit_own ecl_Same xty_Same su_InWork_Same su_InWork_InWork, kit_own ecl_Stopped xty_Stopped su_InWork_Stopped su_InWork_InWork, kit_own ecl_InWork xty_InWork su_InWork_InWork su_InWork_InWork, kit_own ic_BadDeed it_BadDeed su_InWork_BadDeed su_InWork_InWork, kit_own ic_BadFrac it_BadFrac su_InWork_BadFrac su_InWork_InWork, kit_own ic_BadKettles it_BadKettles su_InWork_BadKettles su_InWork_InWork, kit_own ic_BadMoulds it_BadMoulds su_InWork_BadMoulds su_InWork_InWork, kit_own ic_BadRow it_BadRow su_InWork_BadRow su_InWork_InWork, kit_own ic_Cured it_Cured su_InWork_Cured su_InWork_InWork, kit_own ic_NoHour it_NoHour su_InWork_NoHour su_InWork_InWork, kit_own ic_NoMould it_NoMould su_InWork_NoMould su_InWork_InWork, kit_own ic_NoSteady it_NoSteady su_InWork_NoSteady su_InWork_InWork, kit_own ic_NoTelling it_NoTelling su_InWork_NoTelling su_InWork_InWork, kit_own ic_NotCured it_NotCured su_InWork_NotCured su_InWork_InWork, kit_own ic_NotReady it_NotReady su_InWork_NotReady su_InWork_InWork, kit_own ic_TooStrong it_TooStrong su_InWork_TooStrong su_InWork_InWork, kit_ve ive_NoKettle, kit_ve ive_NoRoom, kit_ve ive_NoShare, kit_ve ive_Empty, kit_ve ive_Same, kit_ve ive_Stopped, kit_ve ive_InWork, _, PySem.W.mg_of X G g_Row, ⟨mk_Row, a15, i15, kc_Row⟩, ⟨pg_Row, hd_Row, po_Row, sa_Row⟩, nf_Row_kettles, nf_Row_moulds, _, PySem.W.mg_of X G g_SameRow, ⟨mk_SameRow, a14, i14, kc_SameRow⟩, ⟨pg_SameRow, hd_SameRow, po_SameRow, sa_SameRow⟩, nf_SameRow_kettles, nf_SameRow_moulds, _, PySem.W.mg_of X G g_Kettle, ⟨mk_Kettle, a13, i13, kc_Kettle⟩, ⟨pg_Kettle, hd_Kettle, po_Kettle, sa_Kettle⟩, nf_Kettle_room, nf_Kettle_fire, nf_Kettle_mark, nf_Kettle_juice, nf_Kettle_at_work, _, PySem.W.mg_of X G g_Kettles, ⟨mk_Kettles, a11, i11, kc_Kettles⟩, ⟨pg_Kettles, hd_Kettles, po_Kettles, sa_Kettles⟩, nf_Kettles__row, nf_Kettles__table, nf_Kettles__hour, nf_Kettles__boiled, ⟨a0, i0, k0⟩, ⟨a1, i1, k1⟩, ⟨a2, i2, k2⟩, ⟨a3, i3, k3⟩, ⟨a4, i4, k4⟩, ⟨a5, i5, k5⟩, ⟨a6, i6, k6⟩, ⟨a7, i7, k7⟩, ⟨a8, i8, k8⟩, ⟨a9, i9, k9⟩, ⟨a10, i10, k10⟩, ⟨a12, i12, k12⟩, C30, P30, funC_mk (st := s_p_is_name) l30 c30, C34, P34, funC_mk (st := s_p__can_be_kettles) l34 c34, C35, P35, funC_mk (st := s_p__can_be_moulds) l35 c35, _, PySem.W.mg_of X G z_NOTHING, ⟨_, _, fun H => ⟨.inr ⟨_, _, _, l_NOTHING, rfl, rfl, small (n := 2) (by decide), .cons rfl (.cons rfl .nil)⟩, .inr ⟨_, _, _, lx_NOTHING, rfl, rfl, small (n := 2) (by decide), .cons ⟨_, rfl⟩ (.cons ⟨_, rfl⟩ .nil)⟩, .inr ⟨_, _, _, ly_NOTHING, rfl, rfl, small (n := 2) (by decide), .cons ⟨_, rfl⟩ (.cons ⟨_, rfl⟩ .nil)⟩⟩⟩, _, PySem.W.mg_of X G z_NOUGHT, fun H => .inr ⟨_, _, _, l_NOUGHT, rfl, rfl, small (n := 2) (by decide), .cons ⟨_, rfl⟩ (.cons ⟨_, rfl⟩ (.nil))⟩, _, PySem.W.mg_of X G z_ONE, fun H => .inr ⟨_, _, _, l_ONE, rfl, rfl, small (n := 2) (by decide), .cons ⟨_, rfl⟩ (.cons ⟨_, rfl⟩ (.nil))⟩⟩
  refine ⟨T.fd_p_law, [(C30, P30), (C34, P34), (C35, P35)], ((List.forall_mem_cons (p := fun (p : Addr × Addr) => ∃ y ∈ (["is_name", "_can_be_kettles", "_can_be_moulds"] : List Str), PySem.W.tabIn K y = some p)).mpr ⟨⟨"is_name", by decide, tabIn_of a30 l30 rfl q30 p30⟩, ((List.forall_mem_cons (p := fun (p : Addr × Addr) => ∃ y ∈ (["is_name", "_can_be_kettles", "_can_be_moulds"] : List Str), PySem.W.tabIn K y = some p)).mpr ⟨⟨"_can_be_kettles", by decide, tabIn_of a34 l34 rfl q34 p34⟩, ((List.forall_mem_cons (p := fun (p : Addr × Addr) => ∃ y ∈ (["is_name", "_can_be_kettles", "_can_be_moulds"] : List Str), PySem.W.tabIn K y = some p)).mpr ⟨⟨"_can_be_moulds", by decide, tabIn_of a35 l35 rfl q35 p35⟩, fun p hp => absurd hp List.not_mem_nil⟩)⟩)⟩), ((List.forall_mem_cons (p := fun (p : Addr × Addr) => K.lookup p.2 = none)).mpr ⟨n30, ((List.forall_mem_cons (p := fun (p : Addr × Addr) => K.lookup p.2 = none)).mpr ⟨n34, ((List.forall_mem_cons (p := fun (p : Addr × Addr) => K.lookup p.2 = none)).mpr ⟨n35, fun p hp => absurd hp List.not_mem_nil⟩)⟩)⟩), fun s v => .of_eq rfl, fun base _ _ B => ?_⟩
  have B : Tabs T base := ⟨B (C30, P30) (by simp), B (C34, P34) (by simp), B (C35, P35) (by simp)⟩
  exact ok_p_law T B
  in #guard_msgs (pass all) in example : True := trivial
end KR
theorem PySem.W.Fast.tw14875506774033737566 : True := trivial
theorem PySem.W.Fast.tw2433327109033313927 : True := trivial
theorem PySem.W.Fast.tw5784705045955582976 : True := trivial
theorem PySem.W.Fast.tw1048226754052661248 : True := trivial
theorem PySem.W.Fast.tw6693645682726413312 : True := trivial
theorem PySem.W.Fast.tw12028427743503233056 : True := trivial
theorem PySem.W.Fast.tw7633250346544957504 : True := trivial
theorem PySem.W.Fast.tw329509499680238656 : True := trivial
theorem PySem.W.Fast.tw12694184656232904768 : True := trivial
theorem PySem.W.Fast.tw11086791908389169248 : True := trivial
theorem PySem.W.Fast.tw884786721850228864 : True := trivial
theorem PySem.W.Fast.tw16126766849148815520 : True := trivial
theorem PySem.W.Fast.tw4213100719335080128 : True := trivial
theorem PySem.W.Fast.tw11023301877987742912 : True := trivial
theorem PySem.W.Fast.tw5474851826178376896 : True := trivial
theorem PySem.W.Fast.tw2902393077043305696 : True := trivial
theorem PySem.W.Fast.tw4515350551051891936 : True := trivial
theorem PySem.W.Fast.tw15603384473228156160 : True := trivial
theorem PySem.W.Fast.tw10452246909382072640 : True := trivial
theorem PySem.W.Fast.tw14501786583788989792 : True := trivial
theorem PySem.W.Fast.tw14783338837812143456 : True := trivial
theorem PySem.W.Fast.tw17578749697754232160 : True := trivial
theorem PySem.W.Fast.tw18354614481896012128 : True := trivial
theorem PySem.W.Fast.tw17210485056027459968 : True := trivial
theorem PySem.W.Fast.tw15717203453238866336 : True := trivial
theorem PySem.W.Fast.tw14542644048253115840 : True := trivial
theorem PySem.W.Fast.tw10748352099416872416 : True := trivial
theorem PySem.W.Fast.tw5159353249749898720 : True := trivial
theorem PySem.W.Fast.tw17202138393568486912 : True := trivial
theorem PySem.W.Fast.tw11184062674040090112 : True := trivial
theorem PySem.W.Fast.tw3087201344677193248 : True := trivial
theorem PySem.W.Fast.tw3908636029402048032 : True := trivial
theorem PySem.W.Fast.tw8251794876190821952 : True := trivial
theorem PySem.W.Fast.tw5065290405818396224 : True := trivial
theorem PySem.W.Fast.tw15888627622082214464 : True := trivial
theorem PySem.W.Fast.tw3530382373693972064 : True := trivial
theorem PySem.W.Fast.tw12810192530310348512 : True := trivial
theorem PySem.W.Fast.tw16681787078954284768 : True := trivial
theorem PySem.W.Fast.tw6549631021277691648 : True := trivial
theorem PySem.W.Fast.tw6947435913449984768 : True := trivial
theorem PySem.W.Fast.tw4785393843555732256 : True := trivial
theorem PySem.W.Fast.tw11093983678322397984 : True := trivial
theorem PySem.W.Fast.tw16969863426002464576 : True := trivial
theorem PySem.W.Fast.tw2102049289622385504 : True := trivial
theorem PySem.W.Fast.tw3341946310965931968 : True := trivial
theorem PySem.W.Fast.tw11420076519845720000 : True := trivial
theorem PySem.W.Fast.tw4629352916379332576 : True := trivial
theorem PySem.W.Fast.tw11528056075215183905 : True := trivial
theorem PySem.W.Fast.tw2102174174713440289 : True := trivial
theorem PySem.W.Fast.tw224566385179584577 : True := trivial
theorem PySem.W.Fast.tw15977973899215759425 : True := trivial
theorem PySem.W.Fast.tw5234643653786627137 : True := trivial
theorem PySem.W.Fast.tw152537240176511105 : True := trivial
theorem PySem.W.Fast.tw15393217434382406817 : True := trivial
theorem PySem.W.Fast.tw16330351239960009889 : True := trivial
theorem PySem.W.Fast.tw11099526350613944545 : True := trivial
theorem PySem.W.Fast.tw14808053079269353697 : True := trivial
theorem PySem.W.Fast.tw3858445011853858081 : True := trivial
theorem PySem.W.Fast.tw14623556416903268673 : True := trivial
theorem PySem.W.Fast.tw84836787171878209 : True := trivial
theorem PySem.W.Fast.tw12545942160623991105 : True := trivial
theorem PySem.W.Fast.tw13624024884393519457 : True := trivial
theorem PySem.W.Fast.tw6658320587960798561 : True := trivial
theorem PySem.W.Fast.tw3611442777052140897 : True := trivial
theorem PySem.W.Fast.tw9090468487906519457 : True := trivial
theorem PySem.W.Fast.tw7066815874109652417 : True := trivial
theorem PySem.W.Fast.tw11071968796588566977 : True := trivial
theorem PySem.W.Fast.tw9729294004634184129 : True := trivial
theorem PySem.W.Fast.tw13064688731878982113 : True := trivial
theorem PySem.W.Fast.tw15988767997661652449 : True := trivial
theorem PySem.W.Fast.tw3323909120983381473 : True := trivial
theorem PySem.W.Fast.tw13582051270646642177 : True := trivial
theorem PySem.W.Fast.tw5949173856058865153 : True := trivial
theorem PySem.W.Fast.tw965507553099061793 : True := trivial
theorem PySem.W.Fast.tw5085878824730277409 : True := trivial
theorem PySem.W.Fast.tw9024403665516579393 : True := trivial
theorem PySem.W.Fast.tw14543786001349373505 : True := trivial
theorem PySem.W.Fast.tw189960176183162497 : True := trivial
theorem PySem.W.Fast.tw12180210637532225153 : True := trivial
theorem PySem.W.Fast.tw7641463290359670401 : True := trivial
theorem PySem.W.Fast.tw8907619031158847105 : True := trivial
theorem PySem.W.Fast.tw6914170498307837601 : True := trivial
theorem PySem.W.Fast.tw8792600714594101985 : True := trivial
theorem PySem.W.Fast.tw13442461045989751521 : True := trivial
theorem PySem.W.Fast.tw10089756243919511425 : True := trivial
theorem PySem.W.Fast.tw8913534829167364001 : True := trivial
theorem PySem.W.Fast.tw8534963682314201057 : True := trivial
theorem PySem.W.Fast.tw6169782976681917409 : True := trivial
theorem PySem.W.Fast.tw3670037564443411458 : True := trivial
theorem PySem.W.Fast.tw10551449724523403330 : True := trivial
theorem PySem.W.Fast.tw6607799418609896546 : True := trivial
theorem PySem.W.Fast.tw5303139193661009026 : True := trivial
theorem PySem.W.Fast.tw12719743633355162786 : True := trivial
theorem PySem.W.Fast.tw11524662615690498210 : True := trivial
theorem PySem.W.Fast.tw14184524891451754690 : True := trivial
theorem PySem.W.Fast.tw17200808184285923522 : True := trivial
theorem PySem.W.Fast.tw8554016326879354050 : True := trivial
theorem PySem.W.Fast.tw14499469986542530754 : True := trivial
theorem PySem.W.Fast.tw2705668638056528066 : True := trivial
theorem PySem.W.Fast.tw12384617756752713986 : True := trivial
theorem PySem.W.Fast.tw3778258371256268034 : True := trivial
theorem PySem.W.Fast.tw14191201233900850434 : True := trivial
theorem PySem.W.Fast.tw3981178751845682434 : True := trivial
theorem PySem.W.Fast.tw3914521772148408610 : True := trivial
theorem PySem.W.Fast.tw16775080231780562242 : True := trivial
theorem PySem.W.Fast.tw530520052338638146 : True := trivial
theorem PySem.W.Fast.tw2172677306930327938 : True := trivial
theorem PySem.W.Fast.tw9678323647162201506 : True := trivial
theorem PySem.W.Fast.tw8746418129990241698 : True := trivial
theorem PySem.W.Fast.tw8783736623799601602 : True := trivial
theorem PySem.W.Fast.tw5779090142749354434 : True := trivial
theorem PySem.W.Fast.tw6774490817562851842 : True := trivial
theorem PySem.W.Fast.tw3316999845305726498 : True := trivial
theorem PySem.W.Fast.tw3897153205334301218 : True := trivial
theorem PySem.W.Fast.tw15227069577464081954 : True := trivial
theorem PySem.W.Fast.tw16528415248899965538 : True := trivial
theorem PySem.W.Fast.tw17462376217915178594 : True := trivial
theorem PySem.W.Fast.tw10674382515507628706 : True := trivial
theorem PySem.W.Fast.tw4845955793443864226 : True := trivial
theorem PySem.W.Fast.tw15492542800528066242 : True := trivial
theorem PySem.W.Fast.tw466817445435447010 : True := trivial
theorem PySem.W.Fast.tw7946487810667454210 : True := trivial
theorem PySem.W.Fast.tw5008517743608470306 : True := trivial
theorem PySem.W.Fast.tw9201306999462767394 : True := trivial
theorem PySem.W.Fast.tw9294611064814620450 : True := trivial
theorem PySem.W.Fast.tw4077717463553915746 : True := trivial
theorem PySem.W.Fast.tw16836575091026364290 : True := trivial
theorem PySem.W.Fast.tw14114616341465271202 : True := trivial
theorem PySem.W.Fast.tw2273792260488436642 : True := trivial
theorem PySem.W.Fast.tw16323741043902989218 : True := trivial
theorem PySem.W.Fast.tw11212613011706322882 : True := trivial
theorem PySem.W.Fast.tw16059407367498483650 : True := trivial
theorem PySem.W.Fast.tw5046602132033231810 : True := trivial
theorem PySem.W.Fast.tw4436961202207615938 : True := trivial
theorem PySem.W.Fast.tw1640104182097936419 : True := trivial
theorem PySem.W.Fast.tw141502003810059299 : True := trivial
theorem PySem.W.Fast.tw66344407590446147 : True := trivial
theorem PySem.W.Fast.tw2693786095282147395 : True := trivial
theorem PySem.W.Fast.tw10691135700706838627 : True := trivial
theorem PySem.W.Fast.tw2345037320940251235 : True := trivial
theorem PySem.W.Fast.tw12353510137286667395 : True := trivial
theorem PySem.W.Fast.tw16161629979479259267 : True := trivial
theorem PySem.W.Fast.tw11127941558659295395 : True := trivial
theorem PySem.W.Fast.tw6590600828111889635 : True := trivial
theorem PySem.W.Fast.tw14323435918999901411 : True := trivial
theorem PySem.W.Fast.tw4424137639243667683 : True := trivial
theorem PySem.W.Fast.tw4873456840682516739 : True := trivial
theorem PySem.W.Fast.tw12209563440350579971 : True := trivial
theorem PySem.W.Fast.tw4013019687024950531 : True := trivial
theorem PySem.W.Fast.tw1411400383808470339 : True := trivial
theorem PySem.W.Fast.tw9015467553720044899 : True := trivial
theorem PySem.W.Fast.tw4936020868595692931 : True := trivial
theorem PySem.W.Fast.tw14037404886002362755 : True := trivial
theorem PySem.W.Fast.tw3464616473566798243 : True := trivial
theorem PySem.W.Fast.tw12057974738630060483 : True := trivial
theorem PySem.W.Fast.tw2676239841212941795 : True := trivial
theorem PySem.W.Fast.tw13508862933384666627 : True := trivial
theorem PySem.W.Fast.tw15564997675361907235 : True := trivial
theorem PySem.W.Fast.tw3976581162389582435 : True := trivial
theorem PySem.W.Fast.tw4998615452421580419 : True := trivial
theorem PySem.W.Fast.tw17362080484921068195 : True := trivial
theorem PySem.W.Fast.tw18123121828253545155 : True := trivial
theorem PySem.W.Fast.tw11541429288687391459 : True := trivial
theorem PySem.W.Fast.tw9206822343258465027 : True := trivial
theorem PySem.W.Fast.tw9957427248326798083 : True := trivial
theorem PySem.W.Fast.tw12237776648214223651 : True := trivial
theorem PySem.W.Fast.tw2348865335407013699 : True := trivial
theorem PySem.W.Fast.tw15230895506506085187 : True := trivial
theorem PySem.W.Fast.tw6890426309865783139 : True := trivial
theorem PySem.W.Fast.tw13906066089041654627 : True := trivial
theorem PySem.W.Fast.tw9827162245473987459 : True := trivial
theorem PySem.W.Fast.tw11228587512511325091 : True := trivial
theorem PySem.W.Fast.tw104312527297418179 : True := trivial
theorem PySem.W.Fast.tw7785993677520995299 : True := trivial
theorem PySem.W.Fast.tw6751849574005474275 : True := trivial
theorem PySem.W.Fast.tw16246488560697810915 : True := trivial
theorem PySem.W.Fast.tw7458082728371230724 : True := trivial
theorem PySem.W.Fast.tw6575135732703582244 : True := trivial
theorem PySem.W.Fast.tw14595044128125681796 : True := trivial
theorem PySem.W.Fast.tw11809332218802420868 : True := trivial
theorem PySem.W.Fast.tw9087091057505321124 : True := trivial
theorem PySem.W.Fast.tw268201820851552420 : True := trivial
theorem PySem.W.Fast.tw6225986978958171300 : True := trivial
theorem PySem.W.Fast.tw2875370455097045156 : True := trivial
theorem PySem.W.Fast.tw13208268334926769348 : True := trivial
theorem PySem.W.Fast.tw575709254052623588 : True := trivial
theorem PySem.W.Fast.tw1568557217283070180 : True := trivial
theorem PySem.W.Fast.tw10875451028884999428 : True := trivial
theorem PySem.W.Fast.tw13009940847175334148 : True := trivial
theorem PySem.W.Fast.tw7563569129571086628 : True := trivial
theorem PySem.W.Fast.tw13446504077774368068 : True := trivial
theorem PySem.W.Fast.tw3834478477256765828 : True := trivial
theorem PySem.W.Fast.tw17476766438116447620 : True := trivial
theorem PySem.W.Fast.tw10268922986571161988 : True := trivial
theorem PySem.W.Fast.tw16641349814502025604 : True := trivial
theorem PySem.W.Fast.tw4360455060300126628 : True := trivial
theorem PySem.W.Fast.tw7226525001234909636 : True := trivial
theorem PySem.W.Fast.tw10000450802975120868 : True := trivial
theorem PySem.W.Fast.tw9965179303605643748 : True := trivial
theorem PySem.W.Fast.tw13232008931660212868 : True := trivial
theorem PySem.W.Fast.tw8398921603392631460 : True := trivial
theorem PySem.W.Fast.tw3455991464991601348 : True := trivial
theorem PySem.W.Fast.tw6024409576434687684 : True := trivial
theorem PySem.W.Fast.tw10000808959437486820 : True := trivial
theorem PySem.W.Fast.tw4167560705133371108 : True := trivial
theorem PySem.W.Fast.tw17427275286672892644 : True := trivial
theorem PySem.W.Fast.tw9056336966028266308 : True := trivial
theorem PySem.W.Fast.tw5294762243996522340 : True := trivial
theorem PySem.W.Fast.tw6830091148555629476 : True := trivial
theorem PySem.W.Fast.tw13725230560387762116 : True := trivial
theorem PySem.W.Fast.tw9712087586019455972 : True := trivial
theorem PySem.W.Fast.tw9964357071119720453 : True := trivial
theorem PySem.W.Fast.tw7273092336912278533 : True := trivial
theorem PySem.W.Fast.tw12023569013916908581 : True := trivial
theorem PySem.W.Fast.tw7180377708767821893 : True := trivial
theorem PySem.W.Fast.tw9090034902680718469 : True := trivial
theorem PySem.W.Fast.tw7042664587925742789 : True := trivial
theorem PySem.W.Fast.tw15827903120201875685 : True := trivial
theorem PySem.W.Fast.tw15150572001122040037 : True := trivial
theorem PySem.W.Fast.tw15416046764275262789 : True := trivial
theorem PySem.W.Fast.tw6646866270768525637 : True := trivial
theorem PySem.W.Fast.tw13206306220895432037 : True := trivial
theorem PySem.W.Fast.tw3427736525796650405 : True := trivial
theorem PySem.W.Fast.tw12161732176666869157 : True := trivial
theorem PySem.W.Fast.tw5120721604796247461 : True := trivial
theorem PySem.W.Fast.tw4637956565507058117 : True := trivial
theorem PySem.W.Fast.tw2395750548540310981 : True := trivial
theorem PySem.W.Fast.tw6350332979518719461 : True := trivial
theorem PySem.W.Fast.tw15993830776770948581 : True := trivial
theorem PySem.W.Fast.tw18370891630415183333 : True := trivial
theorem PySem.W.Fast.tw10143823445090320933 : True := trivial
theorem PySem.W.Fast.tw13079093587924261477 : True := trivial
theorem PySem.W.Fast.tw1115754365071992421 : True := trivial
theorem PySem.W.Fast.tw10372726453552310885 : True := trivial
theorem PySem.W.Fast.tw13148464118076141157 : True := trivial
theorem PySem.W.Fast.tw9173506408176771717 : True := trivial
theorem PySem.W.Fast.tw7344782919953835653 : True := trivial
theorem PySem.W.Fast.tw890205674642909861 : True := trivial
theorem PySem.W.Fast.tw6710667971581553349 : True := trivial
theorem PySem.W.Fast.tw1265562546922204933 : True := trivial
theorem PySem.W.Fast.tw5273970904870191909 : True := trivial
theorem PySem.W.Fast.tw4872914704355592997 : True := trivial
theorem PySem.W.Fast.tw1535225051896685349 : True := trivial
theorem PySem.W.Fast.tw11240800152205516581 : True := trivial
theorem PySem.W.Fast.tw13200405196371583781 : True := trivial
theorem PySem.W.Fast.tw15588409549397704517 : True := trivial
theorem PySem.W.Fast.tw5220368072973216581 : True := trivial
theorem PySem.W.Fast.tw5117895019962206053 : True := trivial
theorem PySem.W.Fast.tw398722312961820549 : True := trivial
theorem PySem.W.Fast.tw173841540616350597 : True := trivial
theorem PySem.W.Fast.tw13788978005196368773 : True := trivial
theorem PySem.W.Fast.tw1832903384045096966 : True := trivial
theorem PySem.W.Fast.tw16390315288012141574 : True := trivial
theorem PySem.W.Fast.tw13669407743163936806 : True := trivial
theorem PySem.W.Fast.tw8690576599141471270 : True := trivial
theorem PySem.W.Fast.tw4887038465704487974 : True := trivial
theorem PySem.W.Fast.tw13887056868971729126 : True := trivial
theorem PySem.W.Fast.tw8157444734327937254 : True := trivial
theorem PySem.W.Fast.tw2517319351485373702 : True := trivial
theorem PySem.W.Fast.tw11626220796401841414 : True := trivial
theorem PySem.W.Fast.tw14595991672857131270 : True := trivial
theorem PySem.W.Fast.tw17764588837925544262 : True := trivial
theorem PySem.W.Fast.tw4266127924640809382 : True := trivial
theorem PySem.W.Fast.tw16140423014029881766 : True := trivial
theorem PySem.W.Fast.tw14218737079428124102 : True := trivial
theorem PySem.W.Fast.tw4853804053908640230 : True := trivial
theorem PySem.W.Fast.tw4868255867810099750 : True := trivial
theorem PySem.W.Fast.tw7847018436260949542 : True := trivial
theorem PySem.W.Fast.tw13074648939274576486 : True := trivial
theorem PySem.W.Fast.tw16691887131930888838 : True := trivial
theorem PySem.W.Fast.tw15449060611345102470 : True := trivial
theorem PySem.W.Fast.tw6024121125544322694 : True := trivial
theorem PySem.W.Fast.tw17305149650362111654 : True := trivial
theorem PySem.W.Fast.tw13749423866402534054 : True := trivial
theorem PySem.W.Fast.tw16541220533782126278 : True := trivial
theorem PySem.W.Fast.tw18157298469075872454 : True := trivial
theorem PySem.W.Fast.tw4008245000003062534 : True := trivial
theorem PySem.W.Fast.tw11709675168370561798 : True := trivial
theorem PySem.W.Fast.tw4286066718234345222 : True := trivial
theorem PySem.W.Fast.tw7732044723589314342 : True := trivial
theorem PySem.W.Fast.tw10231099952070234022 : True := trivial
theorem PySem.W.Fast.tw1905593831066509254 : True := trivial
theorem PySem.W.Fast.tw1683436819488615366 : True := trivial
theorem PySem.W.Fast.tw14075937124995318758 : True := trivial
theorem PySem.W.Fast.tw6325312021440619494 : True := trivial
theorem PySem.W.Fast.tw6737211475082989575 : True := trivial
theorem PySem.W.Fast.tw11455479664687643687 : True := trivial
theorem PySem.W.Fast.tw7132715082978339911 : True := trivial
theorem PySem.W.Fast.tw16853644693763228839 : True := trivial
theorem PySem.W.Fast.tw8951431897932925095 : True := trivial
theorem PySem.W.Fast.tw389239886571319463 : True := trivial
theorem PySem.W.Fast.tw4043467448156993703 : True := trivial
theorem PySem.W.Fast.tw15747430437526460583 : True := trivial
theorem PySem.W.Fast.tw1011601470036566183 : True := trivial
theorem PySem.W.Fast.tw2793373881760582855 : True := trivial
theorem PySem.W.Fast.tw3557882537723049159 : True := trivial
theorem PySem.W.Fast.tw13869372778385362119 : True := trivial
theorem PySem.W.Fast.tw8120201212075723975 : True := trivial
theorem PySem.W.Fast.tw5194205185010233607 : True := trivial
theorem PySem.W.Fast.tw8851568188926512423 : True := trivial
theorem PySem.W.Fast.tw2152101294052900135 : True := trivial
theorem PySem.W.Fast.tw1714993600775783751 : True := trivial
theorem PySem.W.Fast.tw10069953968882133319 : True := trivial
theorem PySem.W.Fast.tw3266427108417804679 : True := trivial
theorem PySem.W.Fast.tw181671286881233287 : True := trivial
theorem PySem.W.Fast.tw13475561189999593895 : True := trivial
theorem PySem.W.Fast.tw16628204796257028519 : True := trivial
theorem PySem.W.Fast.tw2471856975788982727 : True := trivial
theorem PySem.W.Fast.tw9079776394567457255 : True := trivial
theorem PySem.W.Fast.tw1890262349228263911 : True := trivial
theorem PySem.W.Fast.tw8915806131254275687 : True := trivial
theorem PySem.W.Fast.tw11341072589125969511 : True := trivial
theorem PySem.W.Fast.tw1455669221731461735 : True := trivial
theorem PySem.W.Fast.tw14260235018225445479 : True := trivial
theorem PySem.W.Fast.tw14584067233258710663 : True := trivial
theorem PySem.W.Fast.tw6699358544261984903 : True := trivial
theorem PySem.W.Fast.tw7549681954389719687 : True := trivial
theorem PySem.W.Fast.tw15297105883145242279 : True := trivial
theorem PySem.W.Fast.tw10747245607301060263 : True := trivial
theorem PySem.W.Fast.tw3773360968195521191 : True := trivial
theorem PySem.W.Fast.tw14306644921705952967 : True := trivial
theorem PySem.W.Fast.tw9864521831030150887 : True := trivial
theorem PySem.W.Fast.tw7915450542689071879 : True := trivial
theorem PySem.W.Fast.tw11463592914553248551 : True := trivial
theorem PySem.W.Fast.tw8732794103366396711 : True := trivial
theorem PySem.W.Fast.tw5160262519200693031 : True := trivial
theorem PySem.W.Fast.tw13262203910068388647 : True := trivial
theorem PySem.W.Fast.tw2539964224163401511 : True := trivial
theorem PySem.W.Fast.tw12730841055390098215 : True := trivial
theorem PySem.W.Fast.tw10924778260413422407 : True := trivial
theorem PySem.W.Fast.tw15366762127147049831 : True := trivial
theorem PySem.W.Fast.tw2203784433729644391 : True := trivial
theorem PySem.W.Fast.tw8663098949932336999 : True := trivial
theorem PySem.W.Fast.tw4165889987710754695 : True := trivial
theorem PySem.W.Fast.tw2671541555829884871 : True := trivial
theorem PySem.W.Fast.tw358917730428478407 : True := trivial
theorem PySem.W.Fast.tw17540988028422326247 : True := trivial
theorem PySem.W.Fast.tw3053115449349011464 : True := trivial
theorem PySem.W.Fast.tw2231359973487063080 : True := trivial
theorem PySem.W.Fast.tw7920253751514967112 : True := trivial
theorem PySem.W.Fast.tw9041294602807522376 : True := trivial
theorem PySem.W.Fast.tw18204647776984568936 : True := trivial
theorem PySem.W.Fast.tw10563063297343427720 : True := trivial
theorem PySem.W.Fast.tw17924469447017461896 : True := trivial
theorem PySem.W.Fast.tw2455634200989112488 : True := trivial
theorem PySem.W.Fast.tw2688959973986592936 : True := trivial
theorem PySem.W.Fast.tw10578110378664265960 : True := trivial
theorem PySem.W.Fast.tw337983235239285992 : True := trivial
theorem PySem.W.Fast.tw12345326903868651784 : True := trivial
theorem PySem.W.Fast.tw6191557315549071656 : True := trivial
theorem PySem.W.Fast.tw7848142914921105736 : True := trivial
theorem PySem.W.Fast.tw11887862979993041224 : True := trivial
theorem PySem.W.Fast.tw10319906281411275112 : True := trivial
theorem PySem.W.Fast.tw4822407244289502568 : True := trivial
theorem PySem.W.Fast.tw1849420869140472200 : True := trivial
theorem PySem.W.Fast.tw6891922921662545320 : True := trivial
theorem PySem.W.Fast.tw2803030316002545096 : True := trivial
theorem PySem.W.Fast.tw4775218639121371592 : True := trivial
theorem PySem.W.Fast.tw8940784641429863912 : True := trivial
theorem PySem.W.Fast.tw9306088326189613640 : True := trivial
theorem PySem.W.Fast.tw8722190990572499528 : True := trivial
theorem PySem.W.Fast.tw2517170622444910152 : True := trivial
theorem PySem.W.Fast.tw4352063724063513160 : True := trivial
theorem PySem.W.Fast.tw16695798056350080584 : True := trivial
theorem PySem.W.Fast.tw17193708894795161160 : True := trivial
theorem PySem.W.Fast.tw8273311942052052552 : True := trivial
theorem PySem.W.Fast.tw13472255154035805800 : True := trivial
theorem PySem.W.Fast.tw12445603727045437128 : True := trivial
theorem PySem.W.Fast.tw17243349358652292840 : True := trivial
theorem PySem.W.Fast.tw17991674287584397096 : True := trivial
theorem PySem.W.Fast.tw3303871317931275080 : True := trivial
theorem PySem.W.Fast.tw17919680088656734024 : True := trivial
theorem PySem.W.Fast.tw8400653289302654824 : True := trivial
theorem PySem.W.Fast.tw7030834937167285128 : True := trivial
theorem PySem.W.Fast.tw15200054554528851848 : True := trivial
theorem PySem.W.Fast.tw12887813891648470920 : True := trivial
theorem PySem.W.Fast.tw2400024182533536680 : True := trivial
theorem PySem.W.Fast.tw7778035961951935400 : True := trivial
theorem PySem.W.Fast.tw17395023852066244552 : True := trivial
theorem PySem.W.Fast.tw936938211242545128 : True := trivial
theorem PySem.W.Fast.tw18193353020694768616 : True := trivial
theorem PySem.W.Fast.tw2589135207689704424 : True := trivial
theorem PySem.W.Fast.tw15486255369645437961 : True := trivial
theorem PySem.W.Fast.tw4374099606036269065 : True := trivial
theorem PySem.W.Fast.tw2934176757952350249 : True := trivial
theorem PySem.W.Fast.tw9757630550775238697 : True := trivial
theorem PySem.W.Fast.tw5606989634836769833 : True := trivial
theorem PySem.W.Fast.tw589602332513872969 : True := trivial
theorem PySem.W.Fast.tw11528361486162188361 : True := trivial
theorem PySem.W.Fast.tw7086684133726883945 : True := trivial
theorem PySem.W.Fast.tw15009365469338549353 : True := trivial
theorem PySem.W.Fast.tw219769558457895017 : True := trivial
theorem PySem.W.Fast.tw15837513545168009 : True := trivial
theorem PySem.W.Fast.tw5715645953203329193 : True := trivial
theorem PySem.W.Fast.tw17310756068494319849 : True := trivial
theorem PySem.W.Fast.tw15440910708110721289 : True := trivial
theorem PySem.W.Fast.tw18229320311284478249 : True := trivial
theorem PySem.W.Fast.tw15531300461271361865 : True := trivial
theorem PySem.W.Fast.tw10637448840363007305 : True := trivial
theorem PySem.W.Fast.tw1652803555365306729 : True := trivial
theorem PySem.W.Fast.tw1126069653512062345 : True := trivial
theorem PySem.W.Fast.tw15267935506251044233 : True := trivial
theorem PySem.W.Fast.tw7684250742614987177 : True := trivial
theorem PySem.W.Fast.tw15438821761992711625 : True := trivial
theorem PySem.W.Fast.tw1982677961497167337 : True := trivial
theorem PySem.W.Fast.tw8872375434771014185 : True := trivial
theorem PySem.W.Fast.tw11130323614398040617 : True := trivial
theorem PySem.W.Fast.tw8659084412858191401 : True := trivial
theorem PySem.W.Fast.tw3518547263382038121 : True := trivial
theorem PySem.W.Fast.tw9698285206430667369 : True := trivial
theorem PySem.W.Fast.tw1558189079323273833 : True := trivial
theorem PySem.W.Fast.tw218054335286321801 : True := trivial
theorem PySem.W.Fast.tw533861887811881705 : True := trivial
theorem PySem.W.Fast.tw13566433583929168649 : True := trivial
theorem PySem.W.Fast.tw15391875020361647881 : True := trivial
theorem PySem.W.Fast.tw11785825001147600681 : True := trivial
theorem PySem.W.Fast.tw8270250165871016745 : True := trivial
theorem PySem.W.Fast.tw1972351548574924617 : True := trivial
theorem PySem.W.Fast.tw15488038400621502345 : True := trivial
theorem PySem.W.Fast.tw13197427908687815593 : True := trivial
theorem PySem.W.Fast.tw17817032953211346889 : True := trivial
theorem PySem.W.Fast.tw7648452348097657801 : True := trivial
theorem PySem.W.Fast.tw2078731783343328233 : True := trivial
theorem PySem.W.Fast.tw11334851450261535721 : True := trivial
theorem PySem.W.Fast.tw6568675237692367946 : True := trivial
theorem PySem.W.Fast.tw17716032048206966986 : True := trivial
theorem PySem.W.Fast.tw18263482018626341098 : True := trivial
theorem PySem.W.Fast.tw1202401174993119466 : True := trivial
theorem PySem.W.Fast.tw5618099975189212522 : True := trivial
theorem PySem.W.Fast.tw10895607936858684778 : True := trivial
theorem PySem.W.Fast.tw10446617894022226314 : True := trivial
theorem PySem.W.Fast.tw433766819447027082 : True := trivial
theorem PySem.W.Fast.tw3842430074002580906 : True := trivial
theorem PySem.W.Fast.tw8502148954862479818 : True := trivial
theorem PySem.W.Fast.tw12557150902580097514 : True := trivial
theorem PySem.W.Fast.tw2507731658779508202 : True := trivial
theorem PySem.W.Fast.tw18099946778253495818 : True := trivial
theorem PySem.W.Fast.tw16559065518030366218 : True := trivial
theorem PySem.W.Fast.tw14696875812961769994 : True := trivial
theorem PySem.W.Fast.tw7444663274444540490 : True := trivial
theorem PySem.W.Fast.tw5889358801706361514 : True := trivial
theorem PySem.W.Fast.tw8477813729948733162 : True := trivial
theorem PySem.W.Fast.tw3179673997663442666 : True := trivial
theorem PySem.W.Fast.tw15079331539329390314 : True := trivial
theorem PySem.W.Fast.tw7246518827523403498 : True := trivial
theorem PySem.W.Fast.tw5163500104883708682 : True := trivial
theorem PySem.W.Fast.tw3379820116364831498 : True := trivial
theorem PySem.W.Fast.tw6522137367877642026 : True := trivial
theorem PySem.W.Fast.tw12830190216132811594 : True := trivial
theorem PySem.W.Fast.tw11123447150344577898 : True := trivial
theorem PySem.W.Fast.tw10653800402274328490 : True := trivial
theorem PySem.W.Fast.tw10445346545508306858 : True := trivial
theorem PySem.W.Fast.tw11093227552471956426 : True := trivial
theorem PySem.W.Fast.tw1747129408148928458 : True := trivial
theorem PySem.W.Fast.tw2818777800946522090 : True := trivial
theorem PySem.W.Fast.tw12377476440040025066 : True := trivial
theorem PySem.W.Fast.tw15732907988399537130 : True := trivial
theorem PySem.W.Fast.tw14308903895027616811 : True := trivial
theorem PySem.W.Fast.tw4787574979303713899 : True := trivial
theorem PySem.W.Fast.tw11130548678122141803 : True := trivial
theorem PySem.W.Fast.tw8516953208950491307 : True := trivial
theorem PySem.W.Fast.tw17561273824766464171 : True := trivial
theorem PySem.W.Fast.tw7095606150491333803 : True := trivial
theorem PySem.W.Fast.tw4300029404115942603 : True := trivial
theorem PySem.W.Fast.tw3044485998086078731 : True := trivial
theorem PySem.W.Fast.tw15008209288654848299 : True := trivial
theorem PySem.W.Fast.tw2308238685148549515 : True := trivial
theorem PySem.W.Fast.tw5731209913824293291 : True := trivial
theorem PySem.W.Fast.tw3042699673099585995 : True := trivial
theorem PySem.W.Fast.tw8672371147046055403 : True := trivial
theorem PySem.W.Fast.tw5466701117463741995 : True := trivial
theorem PySem.W.Fast.tw5253319019837772363 : True := trivial
theorem PySem.W.Fast.tw16001734978426953323 : True := trivial
theorem PySem.W.Fast.tw2660177569098965675 : True := trivial
theorem PySem.W.Fast.tw5792886574579153611 : True := trivial
theorem PySem.W.Fast.tw14153020882135861995 : True := trivial
theorem PySem.W.Fast.tw5941580333694414571 : True := trivial
theorem PySem.W.Fast.tw1981218018927005451 : True := trivial
theorem PySem.W.Fast.tw341579751123083019 : True := trivial
theorem PySem.W.Fast.tw16834758782531675947 : True := trivial
theorem PySem.W.Fast.tw4294395885958774667 : True := trivial
theorem PySem.W.Fast.tw3336046747205412779 : True := trivial
theorem PySem.W.Fast.tw996839994627455915 : True := trivial
theorem PySem.W.Fast.tw4065795385445958603 : True := trivial
theorem PySem.W.Fast.tw15264812123964946411 : True := trivial
theorem PySem.W.Fast.tw4479315657994618859 : True := trivial
theorem PySem.W.Fast.tw17652815624838321164 : True := trivial
theorem PySem.W.Fast.tw10953318026550714412 : True := trivial
theorem PySem.W.Fast.tw10574624994456200268 : True := trivial
theorem PySem.W.Fast.tw11204411017097982060 : True := trivial
theorem PySem.W.Fast.tw16511661971627590796 : True := trivial
theorem PySem.W.Fast.tw1854420551022669964 : True := trivial
theorem PySem.W.Fast.tw1565029200303499436 : True := trivial
theorem PySem.W.Fast.tw12078976952021508268 : True := trivial
theorem PySem.W.Fast.tw4828935706611515596 : True := trivial
theorem PySem.W.Fast.tw13547354147471338732 : True := trivial
theorem PySem.W.Fast.tw13029662839672801548 : True := trivial
theorem PySem.W.Fast.tw13637846597386767628 : True := trivial
theorem PySem.W.Fast.tw15799280903665107244 : True := trivial
theorem PySem.W.Fast.tw11411620041399686444 : True := trivial
theorem PySem.W.Fast.tw2170117206065819020 : True := trivial
theorem PySem.W.Fast.tw11791162196526150060 : True := trivial
theorem PySem.W.Fast.tw14972792663381228044 : True := trivial
theorem PySem.W.Fast.tw1678420831006602796 : True := trivial
theorem PySem.W.Fast.tw12575892792347910700 : True := trivial
theorem PySem.W.Fast.tw4832850400543994412 : True := trivial
theorem PySem.W.Fast.tw9780624531206721100 : True := trivial
theorem PySem.W.Fast.tw8576529646898926156 : True := trivial
theorem PySem.W.Fast.tw13720836542849978988 : True := trivial
theorem PySem.W.Fast.tw9329898063863638668 : True := trivial
theorem PySem.W.Fast.tw9364459331080910508 : True := trivial
theorem PySem.W.Fast.tw11804578351916201676 : True := trivial
theorem PySem.W.Fast.tw16060767853733123820 : True := trivial
theorem PySem.W.Fast.tw11228238208683863788 : True := trivial
theorem PySem.W.Fast.tw11133609473553761068 : True := trivial
theorem PySem.W.Fast.tw1785658487024944940 : True := trivial
theorem PySem.W.Fast.tw7256165547285559084 : True := trivial
theorem PySem.W.Fast.tw8939996038314348332 : True := trivial
theorem PySem.W.Fast.tw13959575877349366572 : True := trivial
theorem PySem.W.Fast.tw2679059649590351724 : True := trivial
theorem PySem.W.Fast.tw2912113333561088876 : True := trivial
theorem PySem.W.Fast.tw8421224274427042668 : True := trivial
theorem PySem.W.Fast.tw13708223501071986572 : True := trivial
theorem PySem.W.Fast.tw9294276554491415436 : True := trivial
theorem PySem.W.Fast.tw6065737904837780364 : True := trivial
theorem PySem.W.Fast.tw162890274829467532 : True := trivial
theorem PySem.W.Fast.tw4942751293740547980 : True := trivial
theorem PySem.W.Fast.tw7888032034977471404 : True := trivial
theorem PySem.W.Fast.tw17830465640788820940 : True := trivial
theorem PySem.W.Fast.tw3272134713332656076 : True := trivial
theorem PySem.W.Fast.tw999652443610958828 : True := trivial
theorem PySem.W.Fast.tw69097754072348749 : True := trivial
theorem PySem.W.Fast.tw5037997246863858893 : True := trivial
theorem PySem.W.Fast.tw11781800760729396429 : True := trivial
theorem PySem.W.Fast.tw5606798473354609965 : True := trivial
theorem PySem.W.Fast.tw11423162266702633357 : True := trivial
theorem PySem.W.Fast.tw5802439877047221645 : True := trivial
theorem PySem.W.Fast.tw8624646530589398445 : True := trivial
theorem PySem.W.Fast.tw10347278395287923149 : True := trivial
theorem PySem.W.Fast.tw4451899669445075437 : True := trivial
theorem PySem.W.Fast.tw5337747203520086541 : True := trivial
theorem PySem.W.Fast.tw837866849062361677 : True := trivial
theorem PySem.W.Fast.tw4649552295408791117 : True := trivial
theorem PySem.W.Fast.tw8019970831146315341 : True := trivial
theorem PySem.W.Fast.tw1106241461750847117 : True := trivial
theorem PySem.W.Fast.tw2382968772693518989 : True := trivial
theorem PySem.W.Fast.tw16040758964015350509 : True := trivial
theorem PySem.W.Fast.tw12547549476575400685 : True := trivial
theorem PySem.W.Fast.tw7818845632604005197 : True := trivial
theorem PySem.W.Fast.tw17868181175305794413 : True := trivial
theorem PySem.W.Fast.tw4816862930753601485 : True := trivial
theorem PySem.W.Fast.tw867196783379438541 : True := trivial
theorem PySem.W.Fast.tw12088453105617227757 : True := trivial
theorem PySem.W.Fast.tw5943363295168805902 : True := trivial
theorem PySem.W.Fast.tw14811492770778693646 : True := trivial
theorem PySem.W.Fast.tw9100500645211541614 : True := trivial
theorem PySem.W.Fast.tw1837677903378537582 : True := trivial
theorem PySem.W.Fast.tw5486272353565258894 : True := trivial
theorem PySem.W.Fast.tw9505729893277102254 : True := trivial
theorem PySem.W.Fast.tw2979018714543635662 : True := trivial
theorem PySem.W.Fast.tw10949380697924403438 : True := trivial
theorem PySem.W.Fast.tw3055599952208847118 : True := trivial
theorem PySem.W.Fast.tw11872881622445453582 : True := trivial
theorem PySem.W.Fast.tw15524864671864944910 : True := trivial
theorem PySem.W.Fast.tw8266974649450792238 : True := trivial
theorem PySem.W.Fast.tw15046358284561845550 : True := trivial
theorem PySem.W.Fast.tw12869296415496988974 : True := trivial
theorem PySem.W.Fast.tw5539054543613442382 : True := trivial
theorem PySem.W.Fast.tw11050952436844822894 : True := trivial
theorem PySem.W.Fast.tw18134573245933460846 : True := trivial
theorem PySem.W.Fast.tw16910287282321651054 : True := trivial
theorem PySem.W.Fast.tw7769271090028136878 : True := trivial
theorem PySem.W.Fast.tw8793351470544005582 : True := trivial
theorem PySem.W.Fast.tw14336864262403426830 : True := trivial
theorem PySem.W.Fast.tw12780844934858609166 : True := trivial
theorem PySem.W.Fast.tw802837468268152366 : True := trivial
theorem PySem.W.Fast.tw8189942795936298542 : True := trivial
theorem PySem.W.Fast.tw4345284766898021966 : True := trivial
theorem PySem.W.Fast.tw18122907159679203918 : True := trivial
theorem PySem.W.Fast.tw18317841064631534190 : True := trivial
theorem PySem.W.Fast.tw17013894912437363310 : True := trivial
theorem PySem.W.Fast.tw1137408492039325294 : True := trivial
theorem PySem.W.Fast.tw13949120390848601710 : True := trivial
theorem PySem.W.Fast.tw14982371718487597742 : True := trivial
theorem PySem.W.Fast.tw7045187209615890190 : True := trivial
theorem PySem.W.Fast.tw15171785655450536750 : True := trivial
theorem PySem.W.Fast.tw17324345733899286318 : True := trivial
theorem PySem.W.Fast.tw767708224999227182 : True := trivial
theorem PySem.W.Fast.tw484145362834327374 : True := trivial
theorem PySem.W.Fast.tw9689692359353764686 : True := trivial
theorem PySem.W.Fast.tw3947787732559118158 : True := trivial
theorem PySem.W.Fast.tw14756593094716316494 : True := trivial
theorem PySem.W.Fast.tw1180649374039279470 : True := trivial
theorem PySem.W.Fast.tw17278090359630948206 : True := trivial
theorem PySem.W.Fast.tw11574872958935513998 : True := trivial
theorem PySem.W.Fast.tw3061527755912102798 : True := trivial
theorem PySem.W.Fast.tw18275471497777447886 : True := trivial
theorem PySem.W.Fast.tw18239087580046822350 : True := trivial
theorem PySem.W.Fast.tw1654581240725663694 : True := trivial
theorem PySem.W.Fast.tw10948313500481491950 : True := trivial
theorem PySem.W.Fast.tw4760410344358443023 : True := trivial
theorem PySem.W.Fast.tw2931939216031710223 : True := trivial
theorem PySem.W.Fast.tw7323093414588060719 : True := trivial
theorem PySem.W.Fast.tw11406810007740134447 : True := trivial
theorem PySem.W.Fast.tw6996409034870358095 : True := trivial
theorem PySem.W.Fast.tw15435911628546177103 : True := trivial
theorem PySem.W.Fast.tw87844633929883823 : True := trivial
theorem PySem.W.Fast.tw4164874497750689967 : True := trivial
theorem PySem.W.Fast.tw196947269212414159 : True := trivial
theorem PySem.W.Fast.tw11464358625718882511 : True := trivial
theorem PySem.W.Fast.tw14784030075943051503 : True := trivial
theorem PySem.W.Fast.tw3271667464682071279 : True := trivial
theorem PySem.W.Fast.tw3314276408855457039 : True := trivial
theorem PySem.W.Fast.tw14852536363416415503 : True := trivial
theorem PySem.W.Fast.tw795695589333764463 : True := trivial
theorem PySem.W.Fast.tw1947936200981490063 : True := trivial
theorem PySem.W.Fast.tw7154576724813537679 : True := trivial
theorem PySem.W.Fast.tw7825555480823260559 : True := trivial
theorem PySem.W.Fast.tw4309551858809960879 : True := trivial
theorem PySem.W.Fast.tw11938345756827153903 : True := trivial
theorem PySem.W.Fast.tw466619945806933519 : True := trivial
theorem PySem.W.Fast.tw14103362557618610703 : True := trivial
theorem PySem.W.Fast.tw13777188544143752751 : True := trivial
theorem PySem.W.Fast.tw14821650217416755791 : True := trivial
theorem PySem.W.Fast.tw7880396216011930191 : True := trivial
theorem PySem.W.Fast.tw18203019438297702991 : True := trivial
theorem PySem.W.Fast.tw11851443958564864623 : True := trivial
theorem PySem.W.Fast.tw14795865955103155855 : True := trivial
theorem PySem.W.Fast.tw7253747709470935759 : True := trivial
theorem PySem.W.Fast.tw565673286132319951 : True := trivial
theorem PySem.W.Fast.tw9045294826548546255 : True := trivial
theorem PySem.W.Fast.tw4752116644886208207 : True := trivial
theorem PySem.W.Fast.tw6676453908305301231 : True := trivial
theorem PySem.W.Fast.tw1595230215165083375 : True := trivial
theorem PySem.W.Fast.tw11587148762310380303 : True := trivial
theorem PySem.W.Fast.tw17979585487079953167 : True := trivial
theorem PySem.W.Fast.tw13479898808737156911 : True := trivial
theorem PySem.W.Fast.tw5820512250142954383 : True := trivial
theorem PySem.W.Fast.tw1474838157942898575 : True := trivial
theorem PySem.W.Fast.tw2481348527729891215 : True := trivial
theorem PySem.W.Fast.tw7884935097978836975 : True := trivial
theorem PySem.W.Fast.tw2969136345150162960 : True := trivial
theorem PySem.W.Fast.tw8792106091944942640 : True := trivial
theorem PySem.W.Fast.tw11602322959672352816 : True := trivial
theorem PySem.W.Fast.tw15108762849855068208 : True := trivial
theorem PySem.W.Fast.tw6120765891784211536 : True := trivial
theorem PySem.W.Fast.tw7612878890498295952 : True := trivial
theorem PySem.W.Fast.tw631156950900844688 : True := trivial
theorem PySem.W.Fast.tw11138454252334986384 : True := trivial
theorem PySem.W.Fast.tw2844914711506999440 : True := trivial
theorem PySem.W.Fast.tw9513456259251408048 : True := trivial
theorem PySem.W.Fast.tw15224726422995382448 : True := trivial
theorem PySem.W.Fast.tw7422287356728326320 : True := trivial
theorem PySem.W.Fast.tw10210711504733838608 : True := trivial
theorem PySem.W.Fast.tw9692835473839365424 : True := trivial
theorem PySem.W.Fast.tw2380935755771588944 : True := trivial
theorem PySem.W.Fast.tw6205033172601016752 : True := trivial
theorem PySem.W.Fast.tw7824444622095334896 : True := trivial
theorem PySem.W.Fast.tw6277968871540481552 : True := trivial
theorem PySem.W.Fast.tw6007184213825009200 : True := trivial
theorem PySem.W.Fast.tw12414160629412947504 : True := trivial
theorem PySem.W.Fast.tw10499429830435831344 : True := trivial
theorem PySem.W.Fast.tw4009664188669223504 : True := trivial
theorem PySem.W.Fast.tw10257894322034738800 : True := trivial
theorem PySem.W.Fast.tw749762838326122096 : True := trivial
theorem PySem.W.Fast.tw13467148673735750256 : True := trivial
theorem PySem.W.Fast.tw9892914231622798992 : True := trivial
theorem PySem.W.Fast.tw1351004184181053072 : True := trivial
theorem PySem.W.Fast.tw6644096508138832528 : True := trivial
theorem PySem.W.Fast.tw9885265265055421104 : True := trivial
theorem PySem.W.Fast.tw12402744588633617136 : True := trivial
theorem PySem.W.Fast.tw4837789195940930320 : True := trivial
theorem PySem.W.Fast.tw4915791720072454992 : True := trivial
theorem PySem.W.Fast.tw4759575717027896176 : True := trivial
theorem PySem.W.Fast.tw9744322326818654096 : True := trivial
theorem PySem.W.Fast.tw14163584453041582992 : True := trivial
theorem PySem.W.Fast.tw13804204295729788848 : True := trivial
theorem PySem.W.Fast.tw13129868632031709104 : True := trivial
theorem PySem.W.Fast.tw15286939374959882160 : True := trivial
theorem PySem.W.Fast.tw5099837549077497808 : True := trivial
theorem PySem.W.Fast.tw17181948907897065424 : True := trivial
theorem PySem.W.Fast.tw1931197629992656848 : True := trivial
theorem PySem.W.Fast.tw15615467851473517520 : True := trivial
theorem PySem.W.Fast.tw12563710407890519024 : True := trivial
theorem PySem.W.Fast.tw6748047129782295569 : True := trivial
theorem PySem.W.Fast.tw14920763022559783953 : True := trivial
theorem PySem.W.Fast.tw14247489785741222961 : True := trivial
theorem PySem.W.Fast.tw4626539546293174353 : True := trivial
theorem PySem.W.Fast.tw16454411780695327825 : True := trivial
theorem PySem.W.Fast.tw5912118262143125617 : True := trivial
theorem PySem.W.Fast.tw8637692442198772913 : True := trivial
theorem PySem.W.Fast.tw4634635395499430065 : True := trivial
theorem PySem.W.Fast.tw6113686773904821425 : True := trivial
theorem PySem.W.Fast.tw10102018550165867729 : True := trivial
theorem PySem.W.Fast.tw4537728060106403025 : True := trivial
theorem PySem.W.Fast.tw6838412551869724881 : True := trivial
theorem PySem.W.Fast.tw11441841197246904529 : True := trivial
theorem PySem.W.Fast.tw2230533427307805937 : True := trivial
theorem PySem.W.Fast.tw12133286880776262993 : True := trivial
theorem PySem.W.Fast.tw1898571836321470801 : True := trivial
theorem PySem.W.Fast.tw9859146639377456465 : True := trivial
theorem PySem.W.Fast.tw1898258797211376977 : True := trivial
theorem PySem.W.Fast.tw11430758387121318225 : True := trivial
theorem PySem.W.Fast.tw1296076202251192689 : True := trivial
theorem PySem.W.Fast.tw17202017124103009649 : True := trivial
theorem PySem.W.Fast.tw4101689836707690865 : True := trivial
theorem PySem.W.Fast.tw8783132710221195665 : True := trivial
theorem PySem.W.Fast.tw3007215719251384753 : True := trivial
theorem PySem.W.Fast.tw13491920181814571441 : True := trivial
theorem PySem.W.Fast.tw7716772836300204497 : True := trivial
theorem PySem.W.Fast.tw189028166296383985 : True := trivial
theorem PySem.W.Fast.tw17403286650069201457 : True := trivial
theorem PySem.W.Fast.tw4446421895160515121 : True := trivial
theorem PySem.W.Fast.tw8713173265270876753 : True := trivial
theorem PySem.W.Fast.tw9528433127539491409 : True := trivial
theorem PySem.W.Fast.tw13017119457582827089 : True := trivial
theorem PySem.W.Fast.tw2276623203688511057 : True := trivial
theorem PySem.W.Fast.tw8079565441110709905 : True := trivial
theorem PySem.W.Fast.tw5723998099393948305 : True := trivial
theorem PySem.W.Fast.tw1073227823507322513 : True := trivial
theorem PySem.W.Fast.tw10177489126235071121 : True := trivial
theorem PySem.W.Fast.tw7084329923931966129 : True := trivial
theorem PySem.W.Fast.tw980005702306288305 : True := trivial
theorem PySem.W.Fast.tw1078674397622489777 : True := trivial
theorem PySem.W.Fast.tw10220720574562530993 : True := trivial
theorem PySem.W.Fast.tw10232046369491719889 : True := trivial
theorem PySem.W.Fast.tw1837467364013190865 : True := trivial
theorem PySem.W.Fast.tw16828821651579178737 : True := trivial
theorem PySem.W.Fast.tw16201983573842249457 : True := trivial
theorem PySem.W.Fast.tw1638937524662632177 : True := trivial
theorem PySem.W.Fast.tw14967462262249101073 : True := trivial
theorem PySem.W.Fast.tw14495132647466044209 : True := trivial
theorem PySem.W.Fast.tw909064709026159409 : True := trivial
theorem PySem.W.Fast.tw1319854643680878417 : True := trivial
theorem PySem.W.Fast.tw6542524981525144401 : True := trivial
theorem PySem.W.Fast.tw9246188208828019537 : True := trivial
theorem PySem.W.Fast.tw7093648392623397745 : True := trivial
theorem PySem.W.Fast.tw9710573246677271409 : True := trivial
theorem PySem.W.Fast.tw2238056009772620657 : True := trivial
theorem PySem.W.Fast.tw9805056224788160401 : True := trivial
theorem PySem.W.Fast.tw14891753813867500465 : True := trivial
theorem PySem.W.Fast.tw11400634029589219249 : True := trivial
theorem PySem.W.Fast.tw10466832061962375121 : True := trivial
theorem PySem.W.Fast.tw466749928512615377 : True := trivial
theorem PySem.W.Fast.tw4047457304181511153 : True := trivial
theorem PySem.W.Fast.tw17527213776537243633 : True := trivial
theorem PySem.W.Fast.tw2310618315575161841 : True := trivial
theorem PySem.W.Fast.tw5734697149053894674 : True := trivial
theorem PySem.W.Fast.tw8447283539495706706 : True := trivial
theorem PySem.W.Fast.tw8224075114777994354 : True := trivial
theorem PySem.W.Fast.tw11264194776304880786 : True := trivial
theorem PySem.W.Fast.tw8590307039589636242 : True := trivial
theorem PySem.W.Fast.tw10400368308622263474 : True := trivial
theorem PySem.W.Fast.tw10955177788777996498 : True := trivial
theorem PySem.W.Fast.tw10348014182465591506 : True := trivial
theorem PySem.W.Fast.tw12807569653212774642 : True := trivial
theorem PySem.W.Fast.tw10666069496068267282 : True := trivial
theorem PySem.W.Fast.tw10779873676531768626 : True := trivial
theorem PySem.W.Fast.tw12801060187980968274 : True := trivial
theorem PySem.W.Fast.tw3944736316623307090 : True := trivial
theorem PySem.W.Fast.tw17234292250141324626 : True := trivial
theorem PySem.W.Fast.tw16384852577551582578 : True := trivial
theorem PySem.W.Fast.tw10497061090893712754 : True := trivial
theorem PySem.W.Fast.tw15817905186644448626 : True := trivial
theorem PySem.W.Fast.tw14145601801293116818 : True := trivial
theorem PySem.W.Fast.tw12066992025955762610 : True := trivial
theorem PySem.W.Fast.tw4607338291121070578 : True := trivial
theorem PySem.W.Fast.tw7708642112751715858 : True := trivial
theorem PySem.W.Fast.tw4588206673387983410 : True := trivial
theorem PySem.W.Fast.tw15283828977773040242 : True := trivial
theorem PySem.W.Fast.tw1952285800194343570 : True := trivial
theorem PySem.W.Fast.tw12693997992300115666 : True := trivial
theorem PySem.W.Fast.tw18079697676357797618 : True := trivial
theorem PySem.W.Fast.tw1881028021990023922 : True := trivial
theorem PySem.W.Fast.tw1770296426065308434 : True := trivial
theorem PySem.W.Fast.tw16029430748976408338 : True := trivial
theorem PySem.W.Fast.tw15739513194990341970 : True := trivial
theorem PySem.W.Fast.tw5709699965407345490 : True := trivial
theorem PySem.W.Fast.tw11997632849613561714 : True := trivial
theorem PySem.W.Fast.tw10733456275014164338 : True := trivial
theorem PySem.W.Fast.tw14453182223322949490 : True := trivial
theorem PySem.W.Fast.tw6054005505073299410 : True := trivial
theorem PySem.W.Fast.tw17993265730636398578 : True := trivial
theorem PySem.W.Fast.tw955346764261584915 : True := trivial
theorem PySem.W.Fast.tw2967446065684224051 : True := trivial
theorem PySem.W.Fast.tw13920941415277462739 : True := trivial
theorem PySem.W.Fast.tw9372148639891490003 : True := trivial
theorem PySem.W.Fast.tw4716205494840834259 : True := trivial
theorem PySem.W.Fast.tw8108157000187037907 : True := trivial
theorem PySem.W.Fast.tw8257428693889826067 : True := trivial
theorem PySem.W.Fast.tw15783078903930324275 : True := trivial
theorem PySem.W.Fast.tw15148208703561589075 : True := trivial
theorem PySem.W.Fast.tw14108302584534298995 : True := trivial
theorem PySem.W.Fast.tw8965463683932705171 : True := trivial
theorem PySem.W.Fast.tw15367689661574535571 : True := trivial
theorem PySem.W.Fast.tw6032054121649064403 : True := trivial
theorem PySem.W.Fast.tw513298044056718803 : True := trivial
theorem PySem.W.Fast.tw3961262771010577971 : True := trivial
theorem PySem.W.Fast.tw17951685088580905523 : True := trivial
theorem PySem.W.Fast.tw13018582845345168947 : True := trivial
theorem PySem.W.Fast.tw2015784796289544787 : True := trivial
theorem PySem.W.Fast.tw1733261265992397427 : True := trivial
theorem PySem.W.Fast.tw4408264669342724723 : True := trivial
theorem PySem.W.Fast.tw6629585057757047443 : True := trivial
theorem PySem.W.Fast.tw8613081923706818227 : True := trivial
theorem PySem.W.Fast.tw11476352004188037811 : True := trivial
theorem PySem.W.Fast.tw12600736542785305267 : True := trivial
theorem PySem.W.Fast.tw11659455755396680435 : True := trivial
theorem PySem.W.Fast.tw11974232458499062547 : True := trivial
theorem PySem.W.Fast.tw12218164451136198451 : True := trivial
theorem PySem.W.Fast.tw12534218676249513811 : True := trivial
theorem PySem.W.Fast.tw15937228367101896563 : True := trivial
theorem PySem.W.Fast.tw16627390681075220339 : True := trivial
theorem PySem.W.Fast.tw9167669815487668115 : True := trivial
theorem PySem.W.Fast.tw3502647824501081011 : True := trivial
theorem PySem.W.Fast.tw4869864141810281395 : True := trivial
theorem PySem.W.Fast.tw15468158830404401075 : True := trivial
theorem PySem.W.Fast.tw2618177001431335988 : True := trivial
theorem PySem.W.Fast.tw17870003219861041204 : True := trivial
theorem PySem.W.Fast.tw3950695000439694420 : True := trivial
theorem PySem.W.Fast.tw15795825303622077620 : True := trivial
theorem PySem.W.Fast.tw3393142512817655988 : True := trivial
theorem PySem.W.Fast.tw8406181909518647508 : True := trivial
theorem PySem.W.Fast.tw8123007178468155668 : True := trivial
theorem PySem.W.Fast.tw18398699542245279028 : True := trivial
theorem PySem.W.Fast.tw1585886619726477620 : True := trivial
theorem PySem.W.Fast.tw4366854258911491444 : True := trivial
theorem PySem.W.Fast.tw11687465645122797940 : True := trivial
theorem PySem.W.Fast.tw4760632225108130196 : True := trivial
theorem PySem.W.Fast.tw16169773420648484276 : True := trivial
theorem PySem.W.Fast.tw17349757974685576628 : True := trivial
theorem PySem.W.Fast.tw1127963932704613844 : True := trivial
theorem PySem.W.Fast.tw13590172772928337428 : True := trivial
theorem PySem.W.Fast.tw10769436561309376052 : True := trivial
theorem PySem.W.Fast.tw12784342303724485172 : True := trivial
theorem PySem.W.Fast.tw17195283875577334356 : True := trivial
theorem PySem.W.Fast.tw6885586510240613076 : True := trivial
theorem PySem.W.Fast.tw15055360236465891028 : True := trivial
theorem PySem.W.Fast.tw8847300495800683252 : True := trivial
theorem PySem.W.Fast.tw1151816877530965780 : True := trivial
theorem PySem.W.Fast.tw5714475329310420756 : True := trivial
theorem PySem.W.Fast.tw17072086424781264692 : True := trivial
theorem PySem.W.Fast.tw6333386691192687444 : True := trivial
theorem PySem.W.Fast.tw7251854693702668116 : True := trivial
theorem PySem.W.Fast.tw7175543951984606036 : True := trivial
theorem PySem.W.Fast.tw15801705728220231508 : True := trivial
theorem PySem.W.Fast.tw15842057436933889908 : True := trivial
theorem PySem.W.Fast.tw9308077928913553300 : True := trivial
theorem PySem.W.Fast.tw13842288983684318132 : True := trivial
theorem PySem.W.Fast.tw8634520717108480948 : True := trivial
theorem PySem.W.Fast.tw9738118741045453748 : True := trivial
theorem PySem.W.Fast.tw3700560138566407189 : True := trivial
theorem PySem.W.Fast.tw1291482675415032885 : True := trivial
theorem PySem.W.Fast.tw2423329146639555701 : True := trivial
theorem PySem.W.Fast.tw17199012440102826101 : True := trivial
theorem PySem.W.Fast.tw17236914980944720021 : True := trivial
theorem PySem.W.Fast.tw18337591631144553685 : True := trivial
theorem PySem.W.Fast.tw6360819840247801045 : True := trivial
theorem PySem.W.Fast.tw634525896818407637 : True := trivial
theorem PySem.W.Fast.tw439450182188090581 : True := trivial
theorem PySem.W.Fast.tw16000723254824764661 : True := trivial
theorem PySem.W.Fast.tw16672243989243201813 : True := trivial
theorem PySem.W.Fast.tw310814870352777557 : True := trivial
theorem PySem.W.Fast.tw4040610275799810421 : True := trivial
theorem PySem.W.Fast.tw7222825828277389781 : True := trivial
theorem PySem.W.Fast.tw16560377871377638869 : True := trivial
theorem PySem.W.Fast.tw3771121457861876181 : True := trivial
theorem PySem.W.Fast.tw16120537778038805013 : True := trivial
theorem PySem.W.Fast.tw6612190750850197077 : True := trivial
theorem PySem.W.Fast.tw3864136860209267285 : True := trivial
theorem PySem.W.Fast.tw6766997850147710549 : True := trivial
theorem PySem.W.Fast.tw2401594880005674613 : True := trivial
theorem PySem.W.Fast.tw6355041226870903413 : True := trivial
theorem PySem.W.Fast.tw2353091220610759317 : True := trivial
theorem PySem.W.Fast.tw8668911957574854325 : True := trivial
theorem PySem.W.Fast.tw18196340692044469 : True := trivial
theorem PySem.W.Fast.tw16189735465690376949 : True := trivial
theorem PySem.W.Fast.tw4873829273409215285 : True := trivial
theorem PySem.W.Fast.tw10045754403042417493 : True := trivial
theorem PySem.W.Fast.tw7898499641347310485 : True := trivial
theorem PySem.W.Fast.tw15507058186305464245 : True := trivial
theorem PySem.W.Fast.tw8657825407408338933 : True := trivial
theorem PySem.W.Fast.tw5679866454985048053 : True := trivial
theorem PySem.W.Fast.tw14094885748070707222 : True := trivial
theorem PySem.W.Fast.tw2995925941582088246 : True := trivial
theorem PySem.W.Fast.tw10993157719190557750 : True := trivial
theorem PySem.W.Fast.tw13665857086003061846 : True := trivial
theorem PySem.W.Fast.tw16378960806779238518 : True := trivial
theorem PySem.W.Fast.tw8620944145572546678 : True := trivial
theorem PySem.W.Fast.tw6065101902575776918 : True := trivial
theorem PySem.W.Fast.tw18079754556299835638 : True := trivial
theorem PySem.W.Fast.tw15467213487142387990 : True := trivial
theorem PySem.W.Fast.tw9845865075298756886 : True := trivial
theorem PySem.W.Fast.tw15404038895101489494 : True := trivial
theorem PySem.W.Fast.tw1077057663332207958 : True := trivial
theorem PySem.W.Fast.tw17875982619222053238 : True := trivial
theorem PySem.W.Fast.tw7288320577548536214 : True := trivial
theorem PySem.W.Fast.tw12216526280316671382 : True := trivial
theorem PySem.W.Fast.tw12546035629391526326 : True := trivial
theorem PySem.W.Fast.tw5354789105552623062 : True := trivial
theorem PySem.W.Fast.tw15271560260997047766 : True := trivial
theorem PySem.W.Fast.tw10143887665163760086 : True := trivial
theorem PySem.W.Fast.tw16317664643346445814 : True := trivial
theorem PySem.W.Fast.tw6890163607203888630 : True := trivial
theorem PySem.W.Fast.tw10155022084665500150 : True := trivial
theorem PySem.W.Fast.tw46696707502210550 : True := trivial
theorem PySem.W.Fast.tw3894167587460062774 : True := trivial
theorem PySem.W.Fast.tw2768215077802885686 : True := trivial
theorem PySem.W.Fast.tw8597578861040859702 : True := trivial
theorem PySem.W.Fast.tw10363139745482999478 : True := trivial
theorem PySem.W.Fast.tw16248752294043781814 : True := trivial
theorem PySem.W.Fast.tw2268010516769127094 : True := trivial
theorem PySem.W.Fast.tw16378300085060230838 : True := trivial
theorem PySem.W.Fast.tw5034719205500175062 : True := trivial
theorem PySem.W.Fast.tw12116704101909776086 : True := trivial
theorem PySem.W.Fast.tw8792375512113751798 : True := trivial
theorem PySem.W.Fast.tw13349739329502752502 : True := trivial
theorem PySem.W.Fast.tw2491742662976754422 : True := trivial
theorem PySem.W.Fast.tw6753628674546018070 : True := trivial
theorem PySem.W.Fast.tw14869172386054700822 : True := trivial
theorem PySem.W.Fast.tw16335796983238895414 : True := trivial
theorem PySem.W.Fast.tw4973621503294085974 : True := trivial
theorem PySem.W.Fast.tw1713346265315584854 : True := trivial
theorem PySem.W.Fast.tw12014123829881713494 : True := trivial
theorem PySem.W.Fast.tw15884465418253131606 : True := trivial
theorem PySem.W.Fast.tw12361099098040022902 : True := trivial
theorem PySem.W.Fast.tw1071552852537863191 : True := trivial
theorem PySem.W.Fast.tw11296725422817416247 : True := trivial
theorem PySem.W.Fast.tw2572998747352668215 : True := trivial
theorem PySem.W.Fast.tw1868353337119193143 : True := trivial
theorem PySem.W.Fast.tw4826525041572984951 : True := trivial
theorem PySem.W.Fast.tw2793210842819609719 : True := trivial
theorem PySem.W.Fast.tw2996775435792499863 : True := trivial
theorem PySem.W.Fast.tw17521953460143645847 : True := trivial
theorem PySem.W.Fast.tw10803556887310595223 : True := trivial
theorem PySem.W.Fast.tw5255586419487204535 : True := trivial
theorem PySem.W.Fast.tw17689920843010048215 : True := trivial
theorem PySem.W.Fast.tw12698547415021301975 : True := trivial
theorem PySem.W.Fast.tw16838824418058331351 : True := trivial
theorem PySem.W.Fast.tw16160545602340068599 : True := trivial
theorem PySem.W.Fast.tw7747472961569529175 : True := trivial
theorem PySem.W.Fast.tw6271719922237940055 : True := trivial
theorem PySem.W.Fast.tw2275731583545703767 : True := trivial
theorem PySem.W.Fast.tw9111773704366522743 : True := trivial
theorem PySem.W.Fast.tw5769644094708844919 : True := trivial
theorem PySem.W.Fast.tw11009805953669080439 : True := trivial
theorem PySem.W.Fast.tw8126347918526423447 : True := trivial
theorem PySem.W.Fast.tw14550263651838366135 : True := trivial
theorem PySem.W.Fast.tw4765754461022565815 : True := trivial
theorem PySem.W.Fast.tw11028874898402785847 : True := trivial
theorem PySem.W.Fast.tw15623144787478530615 : True := trivial
theorem PySem.W.Fast.tw17474455491845458519 : True := trivial
theorem PySem.W.Fast.tw11395166286575093335 : True := trivial
theorem PySem.W.Fast.tw15371268285119073911 : True := trivial
theorem PySem.W.Fast.tw8242515417433842295 : True := trivial
theorem PySem.W.Fast.tw13755355524897940087 : True := trivial
theorem PySem.W.Fast.tw6074113343369439895 : True := trivial
theorem PySem.W.Fast.tw2080747712819475127 : True := trivial
theorem PySem.W.Fast.tw17915207475005740727 : True := trivial
theorem PySem.W.Fast.tw10382057513928354487 : True := trivial
theorem PySem.W.Fast.tw10823102667507119831 : True := trivial
theorem PySem.W.Fast.tw3933463626905832183 : True := trivial
theorem PySem.W.Fast.tw12079693201789459255 : True := trivial
theorem PySem.W.Fast.tw10394166080131354519 : True := trivial
theorem PySem.W.Fast.tw10095474730011849623 : True := trivial
theorem PySem.W.Fast.tw2252721593763297175 : True := trivial
theorem PySem.W.Fast.tw7304665618449664951 : True := trivial
theorem PySem.W.Fast.tw831873870194839511 : True := trivial
theorem PySem.W.Fast.tw5406643605380922327 : True := trivial
theorem PySem.W.Fast.tw131287039684899831 : True := trivial
theorem PySem.W.Fast.tw2024399545040066584 : True := trivial
theorem PySem.W.Fast.tw6629672296965443640 : True := trivial
theorem PySem.W.Fast.tw5186272771833349176 : True := trivial
theorem PySem.W.Fast.tw6004851160830939224 : True := trivial
theorem PySem.W.Fast.tw3604954428798096504 : True := trivial
theorem PySem.W.Fast.tw14824814454623668376 : True := trivial
theorem PySem.W.Fast.tw12844303126267281560 : True := trivial
theorem PySem.W.Fast.tw15785740618345352408 : True := trivial
theorem PySem.W.Fast.tw16167187454758502616 : True := trivial
theorem PySem.W.Fast.tw11518456564531030232 : True := trivial
theorem PySem.W.Fast.tw10897937751450821880 : True := trivial
theorem PySem.W.Fast.tw18254170490437262584 : True := trivial
theorem PySem.W.Fast.tw3153999519804995896 : True := trivial
theorem PySem.W.Fast.tw1603085890706448728 : True := trivial
theorem PySem.W.Fast.tw11148164582017550680 : True := trivial
theorem PySem.W.Fast.tw39878767656383896 : True := trivial
theorem PySem.W.Fast.tw17347545529253359000 : True := trivial
theorem PySem.W.Fast.tw2025392258163843512 : True := trivial
theorem PySem.W.Fast.tw1438708853638906296 : True := trivial
theorem PySem.W.Fast.tw9236962316314270136 : True := trivial
theorem PySem.W.Fast.tw15130670968472247768 : True := trivial
theorem PySem.W.Fast.tw2572653172695093720 : True := trivial
theorem PySem.W.Fast.tw1283573384834312696 : True := trivial
theorem PySem.W.Fast.tw7368903189678938648 : True := trivial
theorem PySem.W.Fast.tw1280786427665499704 : True := trivial
theorem PySem.W.Fast.tw2249221494705567352 : True := trivial
theorem PySem.W.Fast.tw17973335060267157112 : True := trivial
theorem PySem.W.Fast.tw3517221563997334168 : True := trivial
theorem PySem.W.Fast.tw5799898626290854584 : True := trivial
theorem PySem.W.Fast.tw10247522541039170232 : True := trivial
theorem PySem.W.Fast.tw14178801321307527864 : True := trivial
theorem PySem.W.Fast.tw10262893737584431832 : True := trivial
theorem PySem.W.Fast.tw16444699623156863704 : True := trivial
theorem PySem.W.Fast.tw1944411569767331576 : True := trivial
theorem PySem.W.Fast.tw12844288664222027544 : True := trivial
theorem PySem.W.Fast.tw9923359126987420472 : True := trivial
theorem PySem.W.Fast.tw13331890466383602552 : True := trivial
theorem PySem.W.Fast.tw10501517936658720632 : True := trivial
theorem PySem.W.Fast.tw10793792431833017208 : True := trivial
theorem PySem.W.Fast.tw2888982039284879256 : True := trivial
theorem PySem.W.Fast.tw11025729995182117784 : True := trivial
theorem PySem.W.Fast.tw318416651648221112 : True := trivial
theorem PySem.W.Fast.tw11419995481493666744 : True := trivial
theorem PySem.W.Fast.tw769279487105245176 : True := trivial
theorem PySem.W.Fast.tw7740518486315655160 : True := trivial
theorem PySem.W.Fast.tw2742190409693134840 : True := trivial
theorem PySem.W.Fast.tw9970207251748913209 : True := trivial
theorem PySem.W.Fast.tw2361348663976142905 : True := trivial
theorem PySem.W.Fast.tw3947524211050186841 : True := trivial
theorem PySem.W.Fast.tw8171354205905238105 : True := trivial
theorem PySem.W.Fast.tw862705375474443417 : True := trivial
theorem PySem.W.Fast.tw15683953244314694809 : True := trivial
theorem PySem.W.Fast.tw17340377417301655737 : True := trivial
theorem PySem.W.Fast.tw9179009180689905849 : True := trivial
theorem PySem.W.Fast.tw2302777384760662201 : True := trivial
theorem PySem.W.Fast.tw9680459684986160377 : True := trivial
theorem PySem.W.Fast.tw7507547874844097785 : True := trivial
theorem PySem.W.Fast.tw3103798318605771033 : True := trivial
theorem PySem.W.Fast.tw16901337485904996633 : True := trivial
theorem PySem.W.Fast.tw8665577291575008633 : True := trivial
theorem PySem.W.Fast.tw10492616410706107769 : True := trivial
theorem PySem.W.Fast.tw7471415713477007801 : True := trivial
theorem PySem.W.Fast.tw13083170760103532985 : True := trivial
theorem PySem.W.Fast.tw13874462186821980633 : True := trivial
theorem PySem.W.Fast.tw15807633023521771993 : True := trivial
theorem PySem.W.Fast.tw9073895768751434201 : True := trivial
theorem PySem.W.Fast.tw5563919297659770361 : True := trivial
theorem PySem.W.Fast.tw11782590435621725689 : True := trivial
theorem PySem.W.Fast.tw14661018838609397337 : True := trivial
theorem PySem.W.Fast.tw15305706552810202745 : True := trivial
theorem PySem.W.Fast.tw11136037279660992121 : True := trivial
theorem PySem.W.Fast.tw6824989089700718233 : True := trivial
theorem PySem.W.Fast.tw5917296054866703001 : True := trivial
theorem PySem.W.Fast.tw13487345808176421625 : True := trivial
theorem PySem.W.Fast.tw893493841541040921 : True := trivial
theorem PySem.W.Fast.tw17253803959156819737 : True := trivial
theorem PySem.W.Fast.tw2610040678657726265 : True := trivial
theorem PySem.W.Fast.tw13428988690234952505 : True := trivial
theorem PySem.W.Fast.tw12545355614048284537 : True := trivial
theorem PySem.W.Fast.tw2771134887534921689 : True := trivial
theorem PySem.W.Fast.tw4922490754841789433 : True := trivial
theorem PySem.W.Fast.tw16880099009708686362 : True := trivial
theorem PySem.W.Fast.tw11017441587971427386 : True := trivial
theorem PySem.W.Fast.tw13979258996672770106 : True := trivial
theorem PySem.W.Fast.tw293721865525276730 : True := trivial
theorem PySem.W.Fast.tw10348158730418036858 : True := trivial
theorem PySem.W.Fast.tw17082826079230571674 : True := trivial
theorem PySem.W.Fast.tw519993665309001882 : True := trivial
theorem PySem.W.Fast.tw12250830394613301466 : True := trivial
theorem PySem.W.Fast.tw13084254415116722394 : True := trivial
theorem PySem.W.Fast.tw6020199526380811514 : True := trivial
theorem PySem.W.Fast.tw3690036598425961722 : True := trivial
theorem PySem.W.Fast.tw7619680762747485434 : True := trivial
theorem PySem.W.Fast.tw12715545451121456410 : True := trivial
theorem PySem.W.Fast.tw12850734223506089306 : True := trivial
theorem PySem.W.Fast.tw1313990550557390202 : True := trivial
theorem PySem.W.Fast.tw13628574598321395098 : True := trivial
theorem PySem.W.Fast.tw2963146960498427322 : True := trivial
theorem PySem.W.Fast.tw17056060637171816890 : True := trivial
theorem PySem.W.Fast.tw13002545931722016186 : True := trivial
theorem PySem.W.Fast.tw857362880459119066 : True := trivial
theorem PySem.W.Fast.tw12528880125898431962 : True := trivial
theorem PySem.W.Fast.tw12745812647855759834 : True := trivial
theorem PySem.W.Fast.tw5755425303315072538 : True := trivial
theorem PySem.W.Fast.tw9626369734904656442 : True := trivial
theorem PySem.W.Fast.tw10281660966927644218 : True := trivial
theorem PySem.W.Fast.tw18204107003259378234 : True := trivial
theorem PySem.W.Fast.tw9052570695770559066 : True := trivial
theorem PySem.W.Fast.tw15037960335675665082 : True := trivial
theorem PySem.W.Fast.tw160413902728385210 : True := trivial
theorem PySem.W.Fast.tw12082450640178906842 : True := trivial
theorem PySem.W.Fast.tw4530494850436215514 : True := trivial
theorem PySem.W.Fast.tw3898759100940560122 : True := trivial
theorem PySem.W.Fast.tw8126219722201748250 : True := trivial
theorem PySem.W.Fast.tw2719654202885562138 : True := trivial
theorem PySem.W.Fast.tw15272383269288047386 : True := trivial
theorem PySem.W.Fast.tw10652010340253372218 : True := trivial
theorem PySem.W.Fast.tw486374148011299642 : True := trivial
theorem PySem.W.Fast.tw1396122300604660538 : True := trivial
theorem PySem.W.Fast.tw7869725407760148282 : True := trivial
theorem PySem.W.Fast.tw869894150890182490 : True := trivial
theorem PySem.W.Fast.tw1240391320243168186 : True := trivial
theorem PySem.W.Fast.tw11934725879636853722 : True := trivial
theorem PySem.W.Fast.tw2465317161847293914 : True := trivial
theorem PySem.W.Fast.tw9274673431107280858 : True := trivial
theorem PySem.W.Fast.tw4964176408252404730 : True := trivial
theorem PySem.W.Fast.tw580631144783294523 : True := trivial
theorem PySem.W.Fast.tw16613360811330616475 : True := trivial
theorem PySem.W.Fast.tw17846053867830206619 : True := trivial
theorem PySem.W.Fast.tw4726900809371413659 : True := trivial
theorem PySem.W.Fast.tw3853260399399877819 : True := trivial
theorem PySem.W.Fast.tw10769403226302585115 : True := trivial
theorem PySem.W.Fast.tw6822754401386878235 : True := trivial
theorem PySem.W.Fast.tw14630266237287310651 : True := trivial
theorem PySem.W.Fast.tw1237721345546868027 : True := trivial
theorem PySem.W.Fast.tw14579702851453597019 : True := trivial
theorem PySem.W.Fast.tw14617465975165234555 : True := trivial
theorem PySem.W.Fast.tw8428277045305009531 : True := trivial
theorem PySem.W.Fast.tw2856145434940389787 : True := trivial
theorem PySem.W.Fast.tw10162732109800178203 : True := trivial
theorem PySem.W.Fast.tw9791809846994381339 : True := trivial
theorem PySem.W.Fast.tw7534981035740552731 : True := trivial
theorem PySem.W.Fast.tw5365585352372150843 : True := trivial
theorem PySem.W.Fast.tw14508304013185419867 : True := trivial
theorem PySem.W.Fast.tw5881717579639890523 : True := trivial
theorem PySem.W.Fast.tw7386468193150388827 : True := trivial
theorem PySem.W.Fast.tw759653726507529819 : True := trivial
theorem PySem.W.Fast.tw16736365814371558011 : True := trivial
theorem PySem.W.Fast.tw1152628474485266043 : True := trivial
theorem PySem.W.Fast.tw18018219887110721179 : True := trivial
theorem PySem.W.Fast.tw8555674719127456411 : True := trivial
theorem PySem.W.Fast.tw5700931682844836571 : True := trivial
theorem PySem.W.Fast.tw9274334918574249691 : True := trivial
theorem PySem.W.Fast.tw8898565162129736411 : True := trivial
theorem PySem.W.Fast.tw10664506036653134587 : True := trivial
theorem PySem.W.Fast.tw16847408802646341371 : True := trivial
theorem PySem.W.Fast.tw11386421276041024283 : True := trivial
theorem PySem.W.Fast.tw15633735136767523611 : True := trivial
theorem PySem.W.Fast.tw15049807764975923003 : True := trivial
theorem PySem.W.Fast.tw12483128001274375995 : True := trivial
theorem PySem.W.Fast.tw10401945580884719451 : True := trivial
theorem PySem.W.Fast.tw8466553536576208763 : True := trivial
theorem PySem.W.Fast.tw1752507544962433947 : True := trivial
theorem PySem.W.Fast.tw15042219636451066779 : True := trivial
theorem PySem.W.Fast.tw10980683716814650299 : True := trivial
theorem PySem.W.Fast.tw9717073067674975195 : True := trivial
theorem PySem.W.Fast.tw5826446125952506940 : True := trivial
theorem PySem.W.Fast.tw4934170726616122428 : True := trivial
theorem PySem.W.Fast.tw6091167475996747836 : True := trivial
theorem PySem.W.Fast.tw10914513516710385756 : True := trivial
theorem PySem.W.Fast.tw4093955056639990908 : True := trivial
theorem PySem.W.Fast.tw16252494074411749532 : True := trivial
theorem PySem.W.Fast.tw1952487345542313148 : True := trivial
theorem PySem.W.Fast.tw13973697347715577084 : True := trivial
theorem PySem.W.Fast.tw12855646506778743036 : True := trivial
theorem PySem.W.Fast.tw7482538672869040380 : True := trivial
theorem PySem.W.Fast.tw3991408376042850588 : True := trivial
theorem PySem.W.Fast.tw2259090026845976860 : True := trivial
theorem PySem.W.Fast.tw5220275135313146140 : True := trivial
theorem PySem.W.Fast.tw13708536942427217212 : True := trivial
theorem PySem.W.Fast.tw1237950099055247708 : True := trivial
theorem PySem.W.Fast.tw16337374759003086172 : True := trivial
theorem PySem.W.Fast.tw3068201770248926556 : True := trivial
theorem PySem.W.Fast.tw13353584717858506108 : True := trivial
theorem PySem.W.Fast.tw12447145309372086684 : True := trivial
theorem PySem.W.Fast.tw6625154325607031228 : True := trivial
theorem PySem.W.Fast.tw1127812421643157948 : True := trivial
theorem PySem.W.Fast.tw12950907928587500988 : True := trivial
theorem PySem.W.Fast.tw4877646535834935772 : True := trivial
theorem PySem.W.Fast.tw4228715468340113884 : True := trivial
theorem PySem.W.Fast.tw14503818372548376028 : True := trivial
theorem PySem.W.Fast.tw5031874838112749020 : True := trivial
theorem PySem.W.Fast.tw8865663239378817500 : True := trivial
theorem PySem.W.Fast.tw3875231378134176252 : True := trivial
theorem PySem.W.Fast.tw643347801474429436 : True := trivial
theorem PySem.W.Fast.tw7535792481547359804 : True := trivial
theorem PySem.W.Fast.tw7455387810488002108 : True := trivial
theorem PySem.W.Fast.tw8396421906300380764 : True := trivial
theorem PySem.W.Fast.tw8832579667238408796 : True := trivial
theorem PySem.W.Fast.tw12861894426427687548 : True := trivial
theorem PySem.W.Fast.tw12139742800300797564 : True := trivial
theorem PySem.W.Fast.tw3271230458438326940 : True := trivial
theorem PySem.W.Fast.tw8121047076517392156 : True := trivial
theorem PySem.W.Fast.tw2122522685195171612 : True := trivial
theorem PySem.W.Fast.tw3861762423784722204 : True := trivial
theorem PySem.W.Fast.tw16130329190584447772 : True := trivial
theorem PySem.W.Fast.tw2235288250023349052 : True := trivial
theorem PySem.W.Fast.tw10480702136589979452 : True := trivial
theorem PySem.W.Fast.tw6594352115374415676 : True := trivial
theorem PySem.W.Fast.tw8161757768929439548 : True := trivial
theorem PySem.W.Fast.tw10445221783775407932 : True := trivial
theorem PySem.W.Fast.tw8461116331440677724 : True := trivial
theorem PySem.W.Fast.tw11803804512964755292 : True := trivial
theorem PySem.W.Fast.tw2683986410416784252 : True := trivial
theorem PySem.W.Fast.tw3475821905773923228 : True := trivial
theorem PySem.W.Fast.tw5562939436835120028 : True := trivial
theorem PySem.W.Fast.tw13878665764760254364 : True := trivial
theorem PySem.W.Fast.tw1669339622329376700 : True := trivial
theorem PySem.W.Fast.tw17627538582963090364 : True := trivial
theorem PySem.W.Fast.tw4106406257487999932 : True := trivial
theorem PySem.W.Fast.tw4319926507430649820 : True := trivial
theorem PySem.W.Fast.tw6161783756544924636 : True := trivial
theorem PySem.W.Fast.tw14242953375969530876 : True := trivial
theorem PySem.W.Fast.tw4911260000967790621 : True := trivial
theorem PySem.W.Fast.tw14457791140563772445 : True := trivial
theorem PySem.W.Fast.tw159720033118271581 : True := trivial
theorem PySem.W.Fast.tw15552513558823754845 : True := trivial
theorem PySem.W.Fast.tw15004687491671181437 : True := trivial
theorem PySem.W.Fast.tw18320537238973541501 : True := trivial
theorem PySem.W.Fast.tw197173960819897469 : True := trivial
theorem PySem.W.Fast.tw76956381705283741 : True := trivial
theorem PySem.W.Fast.tw11908546520145570973 : True := trivial
theorem PySem.W.Fast.tw7455537191134512285 : True := trivial
theorem PySem.W.Fast.tw11027207765217936573 : True := trivial
theorem PySem.W.Fast.tw11856832004669619389 : True := trivial
theorem PySem.W.Fast.tw2020692000745146557 : True := trivial
theorem PySem.W.Fast.tw9987667659088029885 : True := trivial
theorem PySem.W.Fast.tw12094890883718315197 : True := trivial
theorem PySem.W.Fast.tw17316980082867711197 : True := trivial
theorem PySem.W.Fast.tw13856842510081154365 : True := trivial
theorem PySem.W.Fast.tw18006465929941982557 : True := trivial
theorem PySem.W.Fast.tw9589474342731530589 : True := trivial
theorem PySem.W.Fast.tw10064915770357957021 : True := trivial
theorem PySem.W.Fast.tw8158652000583701981 : True := trivial
theorem PySem.W.Fast.tw3124486451977806301 : True := trivial
theorem PySem.W.Fast.tw11449312375616661981 : True := trivial
theorem PySem.W.Fast.tw5640528492562115037 : True := trivial
theorem PySem.W.Fast.tw11350034649137228285 : True := trivial
theorem PySem.W.Fast.tw5720015744634305021 : True := trivial
theorem PySem.W.Fast.tw4650826320267839037 : True := trivial
theorem PySem.W.Fast.tw14116912900944340541 : True := trivial
theorem PySem.W.Fast.tw18061619706365225533 : True := trivial
theorem PySem.W.Fast.tw269915759160143421 : True := trivial
theorem PySem.W.Fast.tw14527263973290660413 : True := trivial
theorem PySem.W.Fast.tw17519824910801655357 : True := trivial
theorem PySem.W.Fast.tw10828286850092251741 : True := trivial
theorem PySem.W.Fast.tw6907817950108336733 : True := trivial
theorem PySem.W.Fast.tw3147866674160850525 : True := trivial
theorem PySem.W.Fast.tw1939852492054096477 : True := trivial
theorem PySem.W.Fast.tw16349547223120618109 : True := trivial
theorem PySem.W.Fast.tw11116282559468068477 : True := trivial
theorem PySem.W.Fast.tw16300194319264222877 : True := trivial
theorem PySem.W.Fast.tw3396378776968860317 : True := trivial
theorem PySem.W.Fast.tw4902714491524881085 : True := trivial
theorem PySem.W.Fast.tw12176241303484857021 : True := trivial
theorem PySem.W.Fast.tw7495157699356674781 : True := trivial
theorem PySem.W.Fast.tw5980861043758156509 : True := trivial
theorem PySem.W.Fast.tw18377667431632926461 : True := trivial
theorem PySem.W.Fast.tw17115335150574440253 : True := trivial
theorem PySem.W.Fast.tw11852058862544698173 : True := trivial
theorem PySem.W.Fast.tw7588365226904668989 : True := trivial
theorem PySem.W.Fast.tw5906909042959400893 : True := trivial
theorem PySem.W.Fast.tw2899139716663050173 : True := trivial
theorem PySem.W.Fast.tw13147111980739774429 : True := trivial
theorem PySem.W.Fast.tw14203075691873068029 : True := trivial
theorem PySem.W.Fast.tw2254159213726786590 : True := trivial
theorem PySem.W.Fast.tw5607699266193882142 : True := trivial
theorem PySem.W.Fast.tw8505718692207099966 : True := trivial
theorem PySem.W.Fast.tw64353317404653630 : True := trivial
theorem PySem.W.Fast.tw18282129818314401854 : True := trivial
theorem PySem.W.Fast.tw665099506779470942 : True := trivial
theorem PySem.W.Fast.tw9249133092067534942 : True := trivial
theorem PySem.W.Fast.tw8204365677349891166 : True := trivial
theorem PySem.W.Fast.tw7244985172403707006 : True := trivial
theorem PySem.W.Fast.tw1413542654420722846 : True := trivial
theorem PySem.W.Fast.tw6853952852157788318 : True := trivial
theorem PySem.W.Fast.tw8253075860661925022 : True := trivial
theorem PySem.W.Fast.tw1782798352153745662 : True := trivial
theorem PySem.W.Fast.tw18010616627662975230 : True := trivial
theorem PySem.W.Fast.tw18074298950681753950 : True := trivial
theorem PySem.W.Fast.tw15945560529910994334 : True := trivial
theorem PySem.W.Fast.tw6418667882744632734 : True := trivial
theorem PySem.W.Fast.tw504204173178921374 : True := trivial
theorem PySem.W.Fast.tw9653324159150102014 : True := trivial
theorem PySem.W.Fast.tw13460661585814565374 : True := trivial
theorem PySem.W.Fast.tw10318049077495712254 : True := trivial
theorem PySem.W.Fast.tw837760184531244542 : True := trivial
theorem PySem.W.Fast.tw8248372042639636990 : True := trivial
theorem PySem.W.Fast.tw10448982674585817630 : True := trivial
theorem PySem.W.Fast.tw13207889856115915294 : True := trivial
theorem PySem.W.Fast.tw12098887238136610334 : True := trivial
theorem PySem.W.Fast.tw11691301059752511006 : True := trivial
theorem PySem.W.Fast.tw7237239164898811454 : True := trivial
theorem PySem.W.Fast.tw18238159093473860158 : True := trivial
theorem PySem.W.Fast.tw10929787382419032670 : True := trivial
theorem PySem.W.Fast.tw12988853606450419358 : True := trivial
theorem PySem.W.Fast.tw16634257120784248542 : True := trivial
theorem PySem.W.Fast.tw15151764221783565086 : True := trivial
theorem PySem.W.Fast.tw18153757522048574238 : True := trivial
theorem PySem.W.Fast.tw12197389937007869758 : True := trivial
theorem PySem.W.Fast.tw10697200397292574590 : True := trivial
theorem PySem.W.Fast.tw1390011513786517374 : True := trivial
theorem PySem.W.Fast.tw14376594086801105790 : True := trivial
theorem PySem.W.Fast.tw14195447636737598366 : True := trivial
theorem PySem.W.Fast.tw1507191827953823646 : True := trivial
theorem PySem.W.Fast.tw5090162140828715998 : True := trivial
theorem PySem.W.Fast.tw5028678125126312958 : True := trivial
theorem PySem.W.Fast.tw13231662831966808062 : True := trivial
theorem PySem.W.Fast.tw6228900777064951806 : True := trivial
theorem PySem.W.Fast.tw10500766114566052927 : True := trivial
theorem PySem.W.Fast.tw17350990033713737791 : True := trivial
theorem PySem.W.Fast.tw15318975805461232703 : True := trivial
theorem PySem.W.Fast.tw8045444493616810079 : True := trivial
theorem PySem.W.Fast.tw18013882622405545055 : True := trivial
theorem PySem.W.Fast.tw3150824519642910815 : True := trivial
theorem PySem.W.Fast.tw4082338960098914399 : True := trivial
theorem PySem.W.Fast.tw15968136674229020799 : True := trivial
theorem PySem.W.Fast.tw1521889854509595807 : True := trivial
theorem PySem.W.Fast.tw10189302666374276255 : True := trivial
theorem PySem.W.Fast.tw5865186952554183839 : True := trivial
theorem PySem.W.Fast.tw7580924272053620927 : True := trivial
theorem PySem.W.Fast.tw2977624234979861695 : True := trivial
theorem PySem.W.Fast.tw4402398926043320575 : True := trivial
theorem PySem.W.Fast.tw18140212900495751455 : True := trivial
theorem PySem.W.Fast.tw15496798597706810719 : True := trivial
theorem PySem.W.Fast.tw11506401272230033791 : True := trivial
theorem PySem.W.Fast.tw8247670692375521663 : True := trivial
theorem PySem.W.Fast.tw25269022558884255 : True := trivial
theorem PySem.W.Fast.tw6859467518366032287 : True := trivial
theorem PySem.W.Fast.tw7019015984820411903 : True := trivial
theorem PySem.W.Fast.tw2389259796380628543 : True := trivial
theorem PySem.W.Fast.tw5325277984395993695 : True := trivial
theorem PySem.W.Fast.tw247203102127564383 : True := trivial
theorem PySem.W.Fast.tw4254255684663499391 : True := trivial
theorem PySem.W.Fast.tw7375507569486399135 : True := trivial
theorem PySem.W.Fast.tw2524447435990765215 : True := trivial
theorem PySem.W.Fast.tw866664331333128863 : True := trivial
theorem PySem.W.Fast.tw17024877102597822111 : True := trivial
theorem PySem.W.Fast.tw6696285903998192383 : True := trivial
theorem PySem.W.Fast.tw1515391943611916031 : True := trivial
theorem PySem.W.Fast.tw7441662681272362815 : True := trivial
theorem PySem.W.Fast.tw4778646066976591711 : True := trivial
theorem PySem.W.Fast.tw8412185219108271967 : True := trivial
theorem PySem.W.Fast.tw2417535189062527871 : True := trivial
theorem PySem.W.Fast.tw17494322847499987839 : True := trivial
theorem PySem.W.Fast.tw4376825964891067263 : True := trivial
theorem PySem.W.Fast.tw15810434417569451967 : True := trivial
theorem PySem.W.Fast.tw7747645920479911903 : True := trivial
theorem PySem.W.Fast.tw5858405359945996287 : True := trivial
open PySem PySem.W PyProof.Rows
set_option maxRecDepth 100000 in
set_option maxHeartbeats 0 in
theorem PySem.Challenge.cw_kettlerow_k27_nothing_is_lost_but_told_holds : PySem.Challenge.rw_kettlerow_k27_nothing_is_lost_but_told.Holds := by
  w_on; o_law; k_head; (case hw => w_witness2)
  k_fill
  refine KR.walk_ofT (l := PySem.Challenge.rw_kettlerow_k27_nothing_is_lost_but_told) (n := 63) (k := 12) (x := "_law_script") (sp := fun w Ps => KR.sp_p_law _ Ps) ["is_name", "_can_be_kettles", "_can_be_moulds"] rfl (by decide) rfl ⟨rfl, by decide, by decide⟩ (fun w h Y => PySem.W.kIn_of Y) (by decide +kernel) ?F (fun _ _ _ a ns hl hT hS => ⟨a, ns, rfl, hS, hl, hT, fun _ => rfl⟩)
  case F =>
    intro w mg fa h KX G hmg
    refine' KR.all_mk KX G hmg ?g_Row ?pg_Row ?hd_Row ?po_Row ?sa_Row ?mk_Row ?kc_Row ?nf_Row_kettles ?nf_Row_moulds ?g_SameRow ?pg_SameRow ?hd_SameRow ?po_SameRow ?sa_SameRow ?mk_SameRow ?kc_SameRow ?nf_SameRow_kettles ?nf_SameRow_moulds ?g_Kettle ?pg_Kettle ?hd_Kettle ?po_Kettle ?sa_Kettle ?mk_Kettle ?kc_Kettle ?nf_Kettle_room ?nf_Kettle_fire ?nf_Kettle_mark ?nf_Kettle_juice ?nf_Kettle_at_work ?g_Kettles ?pg_Kettles ?hd_Kettles ?po_Kettles ?sa_Kettles ?mk_Kettles ?kc_Kettles ?nf_Kettles__row ?nf_Kettles__table ?nf_Kettles__hour ?nf_Kettles__boiled ?a0 ?l0 ?c0 ?k0 ?i0 ?a1 ?l1 ?c1 ?k1 ?i1 ?a2 ?l2 ?c2 ?k2 ?i2 ?a3 ?l3 ?c3 ?k3 ?i3 ?a4 ?l4 ?c4 ?k4 ?i4 ?a5 ?l5 ?c5 ?k5 ?i5 ?a6 ?l6 ?c6 ?k6 ?i6 ?a7 ?l7 ?c7 ?k7 ?i7 ?a8 ?l8 ?c8 ?k8 ?i8 ?a9 ?l9 ?c9 ?k9 ?i9 ?a10 ?l10 ?c10 ?k10 ?i10 ?a11 ?l11 ?c11 ?k11 ?i11 ?a12 ?l12 ?c12 ?k12 ?i12 ?a13 ?l13 ?c13 ?k13 ?i13 ?a14 ?l14 ?c14 ?k14 ?i14 ?a15 ?l15 ?c15 ?k15 ?i15 ?a16 ?l16 ?c16 ?k16 ?a17 ?l17 ?c17 ?k17 ?a18 ?l18 ?c18 ?k18 ?a19 ?l19 ?c19 ?k19 ?a20 ?l20 ?c20 ?k20 ?a21 ?l21 ?c21 ?k21 ?a22 ?l22 ?c22 ?k22 ?a23 ?l23 ?c23 ?k23 ?a24 ?l24 ?c24 ?k24 ?a25 ?l25 ?c25 ?k25 ?a26 ?l26 ?c26 ?k26 ?a27 ?l27 ?c27 ?k27 ?a28 ?l28 ?c28 ?k28 ?a29 ?l29 ?c29 ?k29 ?a30 ?l30 ?c30 ?k30 ?q30 ?p30 ?n30 ?a31 ?l31 ?c31 ?k31 ?a32 ?l32 ?c32 ?k32 ?a33 ?l33 ?c33 ?k33 ?a34 ?l34 ?c34 ?k34 ?q34 ?p34 ?n34 ?a35 ?l35 ?c35 ?k35 ?q35 ?p35 ?n35 ?a36 ?l36 ?c36 ?k36 ?a37 ?l37 ?c37 ?k37 ?a38 ?l38 ?c38 ?k38 ?a39 ?l39 ?c39 ?k39 ?a40 ?l40 ?c40 ?k40 ?a41 ?l41 ?c41 ?k41 ?a42 ?l42 ?c42 ?k42 ?a43 ?l43 ?c43 ?k43 ?a44 ?l44 ?c44 ?k44 ?a45 ?l45 ?c45 ?k45 ?a46 ?l46 ?c46 ?k46 ?a47 ?l47 ?c47 ?k47 ?a48 ?l48 ?c48 ?k48 ?a49 ?l49 ?c49 ?k49 ?a50 ?l50 ?c50 ?k50 ?a51 ?l51 ?c51 ?k51 ?a52 ?l52 ?c52 ?k52 ?a53 ?l53 ?c53 ?k53 ?a54 ?l54 ?c54 ?k54 ?a55 ?l55 ?c55 ?k55 ?a56 ?l56 ?c56 ?k56 ?a57 ?l57 ?c57 ?k57 ?a58 ?l58 ?c58 ?k58 ?a59 ?l59 ?c59 ?k59 ?a60 ?l60 ?c60 ?k60 ?a61 ?l61 ?c61 ?k61 ?a62 ?l62 ?c62 ?k62 ?z_ValueError ?z_abs ?z_all ?z_bool ?z_dict ?z_divmod ?z_int ?z_isinstance ?z_len ?z_list ?z_max ?z_min ?z_range ?z_set ?z_str ?z_tuple ?z_gcd ?z_MOST_LETTERS ?z_MOST_KETTLES ?z_MOST_MOULDS ?z_MOST_ROOM ?z_MOST_FIRE ?z_MOST_MARK_BOTTOM ?z_MOST_DRIP_BOTTOM ?z_MOST_BOTTOM ?y_BoilError ?y_NoKettle ?y_NoRoom ?y_NoShare ?y_Empty ?y_Same ?y_Stopped ?y_InWork ?y_BadDeed ?y_BadFrac ?y_BadKettles ?y_BadMoulds ?y_BadRow ?y_Cured ?y_NoHour ?y_NoMould ?y_NoSteady ?y_NoTelling ?y_NotCured ?y_NotReady ?y_TooStrong ?xL_NoKettle ?xsa_NoKettle ?xex_NoKettle ?xty_NoKettle ?xk_NoKettle ?xi_NoKettle ?xti_NoKettle ?xl_NoKettle ?xc_NoKettle ?xki_NoKettle ?ecl_NoKettle ?ega_NoKettle ?egg_NoKettle ?ecs_NoKettle ?ege_NoKettle ?etk_NoKettle ?eob_NoKettle ?edi_NoKettle ?efw_NoKettle ?ern_NoKettle ?efc_NoKettle ?efl_NoKettle ?xL_NoRoom ?xsa_NoRoom ?xex_NoRoom ?xty_NoRoom ?xk_NoRoom ?xi_NoRoom ?xti_NoRoom ?xl_NoRoom ?xc_NoRoom ?xki_NoRoom ?ecl_NoRoom ?ega_NoRoom ?egg_NoRoom ?ecs_NoRoom ?ege_NoRoom ?etk_NoRoom ?eob_NoRoom ?edi_NoRoom ?efw_NoRoom ?ern_NoRoom ?efc_NoRoom ?efl_NoRoom ?xL_NoShare ?xsa_NoShare ?xex_NoShare ?xty_NoShare ?xk_NoShare ?xi_NoShare ?xti_NoShare ?xl_NoShare ?xc_NoShare ?xki_NoShare ?ecl_NoShare ?ega_NoShare ?egg_NoShare ?ecs_NoShare ?ege_NoShare ?etk_NoShare ?eob_NoShare ?edi_NoShare ?efw_NoShare ?ern_NoShare ?efc_NoShare ?efl_NoShare ?xL_Empty ?xsa_Empty ?xex_Empty ?xty_Empty ?xk_Empty ?xi_Empty ?xti_Empty ?xl_Empty ?xc_Empty ?xki_Empty ?ecl_Empty ?ega_Empty ?egg_Empty ?ecs_Empty ?ege_Empty ?etk_Empty ?eob_Empty ?edi_Empty ?efw_Empty ?ern_Empty ?efc_Empty ?efl_Empty ?xL_Same ?xsa_Same ?xex_Same ?xty_Same ?xk_Same ?xi_Same ?xti_Same ?xl_Same ?xc_Same ?xki_Same ?ecl_Same ?ega_Same ?egg_Same ?ecs_Same ?ege_Same ?etk_Same ?eob_Same ?edi_Same ?efw_Same ?ern_Same ?efc_Same ?efl_Same ?xL_Stopped ?xsa_Stopped ?xex_Stopped ?xty_Stopped ?xk_Stopped ?xi_Stopped ?xti_Stopped ?xl_Stopped ?xc_Stopped ?xki_Stopped ?ecl_Stopped ?ega_Stopped ?egg_Stopped ?ecs_Stopped ?ege_Stopped ?etk_Stopped ?eob_Stopped ?edi_Stopped ?efw_Stopped ?ern_Stopped ?efc_Stopped ?efl_Stopped ?xL_InWork ?xsa_InWork ?xex_InWork ?xty_InWork ?xk_InWork ?xi_InWork ?xti_InWork ?xl_InWork ?xc_InWork ?xki_InWork ?ecl_InWork ?ega_InWork ?egg_InWork ?ecs_InWork ?ege_InWork ?etk_InWork ?eob_InWork ?edi_InWork ?efw_InWork ?ern_InWork ?efc_InWork ?efl_InWork ?ic_BoilError ?it_BoilError ?ic_BadDeed ?it_BadDeed ?ic_BadFrac ?it_BadFrac ?ic_BadKettles ?it_BadKettles ?ic_BadMoulds ?it_BadMoulds ?ic_BadRow ?it_BadRow ?ic_Cured ?it_Cured ?ic_NoHour ?it_NoHour ?ic_NoMould ?it_NoMould ?ic_NoSteady ?it_NoSteady ?ic_NoTelling ?it_NoTelling ?ic_NotCured ?it_NotCured ?ic_NotReady ?it_NotReady ?ic_TooStrong ?it_TooStrong ?ibx ?su_NoKettle_BoilError ?su_NoRoom_BoilError ?su_NoShare_BoilError ?su_Empty_BoilError ?su_Same_BoilError ?su_Stopped_BoilError ?su_InWork_BoilError ?su_NoKettle_NoKettle ?su_NoKettle_NoRoom ?su_NoKettle_NoShare ?su_NoKettle_Empty ?su_NoKettle_Same ?su_NoKettle_Stopped ?su_NoKettle_InWork ?su_NoKettle_BadDeed ?su_NoKettle_BadFrac ?su_NoKettle_BadKettles ?su_NoKettle_BadMoulds ?su_NoKettle_BadRow ?su_NoKettle_Cured ?su_NoKettle_NoHour ?su_NoKettle_NoMould ?su_NoKettle_NoSteady ?su_NoKettle_NoTelling ?su_NoKettle_NotCured ?su_NoKettle_NotReady ?su_NoKettle_TooStrong ?su_NoRoom_NoKettle ?su_NoRoom_NoRoom ?su_NoRoom_NoShare ?su_NoRoom_Empty ?su_NoRoom_Same ?su_NoRoom_Stopped ?su_NoRoom_InWork ?su_NoRoom_BadDeed ?su_NoRoom_BadFrac ?su_NoRoom_BadKettles ?su_NoRoom_BadMoulds ?su_NoRoom_BadRow ?su_NoRoom_Cured ?su_NoRoom_NoHour ?su_NoRoom_NoMould ?su_NoRoom_NoSteady ?su_NoRoom_NoTelling ?su_NoRoom_NotCured ?su_NoRoom_NotReady ?su_NoRoom_TooStrong ?su_NoShare_NoKettle ?su_NoShare_NoRoom ?su_NoShare_NoShare ?su_NoShare_Empty ?su_NoShare_Same ?su_NoShare_Stopped ?su_NoShare_InWork ?su_NoShare_BadDeed ?su_NoShare_BadFrac ?su_NoShare_BadKettles ?su_NoShare_BadMoulds ?su_NoShare_BadRow ?su_NoShare_Cured ?su_NoShare_NoHour ?su_NoShare_NoMould ?su_NoShare_NoSteady ?su_NoShare_NoTelling ?su_NoShare_NotCured ?su_NoShare_NotReady ?su_NoShare_TooStrong ?su_Empty_NoKettle ?su_Empty_NoRoom ?su_Empty_NoShare ?su_Empty_Empty ?su_Empty_Same ?su_Empty_Stopped ?su_Empty_InWork ?su_Empty_BadDeed ?su_Empty_BadFrac ?su_Empty_BadKettles ?su_Empty_BadMoulds ?su_Empty_BadRow ?su_Empty_Cured ?su_Empty_NoHour ?su_Empty_NoMould ?su_Empty_NoSteady ?su_Empty_NoTelling ?su_Empty_NotCured ?su_Empty_NotReady ?su_Empty_TooStrong ?su_Same_NoKettle ?su_Same_NoRoom ?su_Same_NoShare ?su_Same_Empty ?su_Same_Same ?su_Same_Stopped ?su_Same_InWork ?su_Same_BadDeed ?su_Same_BadFrac ?su_Same_BadKettles ?su_Same_BadMoulds ?su_Same_BadRow ?su_Same_Cured ?su_Same_NoHour ?su_Same_NoMould ?su_Same_NoSteady ?su_Same_NoTelling ?su_Same_NotCured ?su_Same_NotReady ?su_Same_TooStrong ?su_Stopped_NoKettle ?su_Stopped_NoRoom ?su_Stopped_NoShare ?su_Stopped_Empty ?su_Stopped_Same ?su_Stopped_Stopped ?su_Stopped_InWork ?su_Stopped_BadDeed ?su_Stopped_BadFrac ?su_Stopped_BadKettles ?su_Stopped_BadMoulds ?su_Stopped_BadRow ?su_Stopped_Cured ?su_Stopped_NoHour ?su_Stopped_NoMould ?su_Stopped_NoSteady ?su_Stopped_NoTelling ?su_Stopped_NotCured ?su_Stopped_NotReady ?su_Stopped_TooStrong ?su_InWork_NoKettle ?su_InWork_NoRoom ?su_InWork_NoShare ?su_InWork_Empty ?su_InWork_Same ?su_InWork_Stopped ?su_InWork_InWork ?su_InWork_BadDeed ?su_InWork_BadFrac ?su_InWork_BadKettles ?su_InWork_BadMoulds ?su_InWork_BadRow ?su_InWork_Cured ?su_InWork_NoHour ?su_InWork_NoMould ?su_InWork_NoSteady ?su_InWork_NoTelling ?su_InWork_NotCured ?su_InWork_NotReady ?su_InWork_TooStrong ?ive_NoKettle ?ive_NoRoom ?ive_NoShare ?ive_Empty ?ive_Same ?ive_Stopped ?ive_InWork ?z_NOUGHT ?l_NOUGHT ?z_ONE ?l_ONE ?z_NOTHING ?l_NOTHING ?lx_NOTHING ?ly_NOTHING
    (case g_Row => k_is)
    (case pg_Row => k_is)
    (case hd_Row => k_is)
    (case po_Row => k_is)
    (case sa_Row => k_is)
    (case mk_Row => k_is)
    (case kc_Row => k_is)
    (case nf_Row_kettles => k_is)
    (case nf_Row_moulds => k_is)
    (case g_SameRow => k_is)
    (case pg_SameRow => k_is)
    (case hd_SameRow => k_is)
    (case po_SameRow => k_is)
    (case sa_SameRow => k_is)
    (case mk_SameRow => k_is)
    (case kc_SameRow => k_is)
    (case nf_SameRow_kettles => k_is)
    (case nf_SameRow_moulds => k_is)
    (case g_Kettle => k_is)
    (case pg_Kettle => k_is)
    (case hd_Kettle => k_is)
    (case po_Kettle => k_is)
    (case sa_Kettle => k_is)
    (case mk_Kettle => k_is)
    (case kc_Kettle => k_is)
    (case nf_Kettle_room => k_is)
    (case nf_Kettle_fire => k_is)
    (case nf_Kettle_mark => k_is)
    (case nf_Kettle_juice => k_is)
    (case nf_Kettle_at_work => k_is)
    (case g_Kettles => k_is)
    (case pg_Kettles => k_is)
    (case hd_Kettles => k_is)
    (case po_Kettles => k_is)
    (case sa_Kettles => k_is)
    (case mk_Kettles => k_is)
    (case kc_Kettles => k_is)
    (case nf_Kettles__row => k_is)
    (case nf_Kettles__table => k_is)
    (case nf_Kettles__hour => k_is)
    (case nf_Kettles__boiled => k_is)
    (case a0 => k_is)
    (case l0 => k_is)
    (case c0 => k_is)
    (case k0 => k_is)
    (case i0 => k_is)
    (case a1 => k_is)
    (case l1 => k_is)
    (case c1 => k_is)
    (case k1 => k_is)
    (case i1 => k_is)
    (case a2 => k_is)
    (case l2 => k_is)
    (case c2 => k_is)
    (case k2 => k_is)
    (case i2 => k_is)
    (case a3 => k_is)
    (case l3 => k_is)
    (case c3 => k_is)
    (case k3 => k_is)
    (case i3 => k_is)
    (case a4 => k_is)
    (case l4 => k_is)
    (case c4 => k_is)
    (case k4 => k_is)
    (case i4 => k_is)
    (case a5 => k_is)
    (case l5 => k_is)
    (case c5 => k_is)
    (case k5 => k_is)
    (case i5 => k_is)
    (case a6 => k_is)
    (case l6 => k_is)
    (case c6 => k_is)
    (case k6 => k_is)
    (case i6 => k_is)
    (case a7 => k_is)
    (case l7 => k_is)
    (case c7 => k_is)
    (case k7 => k_is)
    (case i7 => k_is)
    (case a8 => k_is)
    (case l8 => k_is)
    (case c8 => k_is)
    (case k8 => k_is)
    (case i8 => k_is)
    (case a9 => k_is)
    (case l9 => k_is)
    (case c9 => k_is)
    (case k9 => k_is)
    (case i9 => k_is)
    (case a10 => k_is)
    (case l10 => k_is)
    (case c10 => k_is)
    (case k10 => k_is)
    (case i10 => k_is)
    (case a11 => k_is)
    (case l11 => k_is)
    (case c11 => k_is)
    (case k11 => k_is)
    (case i11 => k_is)
    (case a12 => k_is)
    (case l12 => k_is)
    (case c12 => k_is)
    (case k12 => k_is)
    (case i12 => k_is)
    (case a13 => k_is)
    (case l13 => k_is)
    (case c13 => k_is)
    (case k13 => k_is)
    (case i13 => k_is)
    (case a14 => k_is)
    (case l14 => k_is)
    (case c14 => k_is)
    (case k14 => k_is)
    (case i14 => k_is)
    (case a15 => k_is)
    (case l15 => k_is)
    (case c15 => k_is)
    (case k15 => k_is)
    (case i15 => k_is)
    (case a16 => k_is)
    (case l16 => k_is)
    (case c16 => k_is)
    (case k16 => k_is)
    (case a17 => k_is)
    (case l17 => k_is)
    (case c17 => k_is)
    (case k17 => k_is)
    (case a18 => k_is)
    (case l18 => k_is)
    (case c18 => k_is)
    (case k18 => k_is)
    (case a19 => k_is)
    (case l19 => k_is)
    (case c19 => k_is)
    (case k19 => k_is)
    (case a20 => k_is)
    (case l20 => k_is)
    (case c20 => k_is)
    (case k20 => k_is)
    (case a21 => k_is)
    (case l21 => k_is)
    (case c21 => k_is)
    (case k21 => k_is)
    (case a22 => k_is)
    (case l22 => k_is)
    (case c22 => k_is)
    (case k22 => k_is)
    (case a23 => k_is)
    (case l23 => k_is)
    (case c23 => k_is)
    (case k23 => k_is)
    (case a24 => k_is)
    (case l24 => k_is)
    (case c24 => k_is)
    (case k24 => k_is)
    (case a25 => k_is)
    (case l25 => k_is)
    (case c25 => k_is)
    (case k25 => k_is)
    (case a26 => k_is)
    (case l26 => k_is)
    (case c26 => k_is)
    (case k26 => k_is)
    (case a27 => k_is)
    (case l27 => k_is)
    (case c27 => k_is)
    (case k27 => k_is)
    (case a28 => k_is)
    (case l28 => k_is)
    (case c28 => k_is)
    (case k28 => k_is)
    (case a29 => k_is)
    (case l29 => k_is)
    (case c29 => k_is)
    (case k29 => k_is)
    (case a30 => k_is)
    (case l30 => k_is)
    (case c30 => k_is)
    (case k30 => k_is)
    (case q30 => k_is)
    (case p30 => first | rfl | (with_unfolding_all rfl))
    (case n30 => first | rfl | (with_unfolding_all rfl))
    (case a31 => k_is)
    (case l31 => k_is)
    (case c31 => k_is)
    (case k31 => k_is)
    (case a32 => k_is)
    (case l32 => k_is)
    (case c32 => k_is)
    (case k32 => k_is)
    (case a33 => k_is)
    (case l33 => k_is)
    (case c33 => k_is)
    (case k33 => k_is)
    (case a34 => k_is)
    (case l34 => k_is)
    (case c34 => k_is)
    (case k34 => k_is)
    (case q34 => k_is)
    (case p34 => first | rfl | (with_unfolding_all rfl))
    (case n34 => first | rfl | (with_unfolding_all rfl))
    (case a35 => k_is)
    (case l35 => k_is)
    (case c35 => k_is)
    (case k35 => k_is)
    (case q35 => k_is)
    (case p35 => first | rfl | (with_unfolding_all rfl))
    (case n35 => first | rfl | (with_unfolding_all rfl))
    (case a36 => k_is)
    (case l36 => k_is)
    (case c36 => k_is)
    (case k36 => k_is)
    (case a37 => k_is)
    (case l37 => k_is)
    (case c37 => k_is)
    (case k37 => k_is)
    (case a38 => k_is)
    (case l38 => k_is)
    (case c38 => k_is)
    (case k38 => k_is)
    (case a39 => k_is)
    (case l39 => k_is)
    (case c39 => k_is)
    (case k39 => k_is)
    (case a40 => k_is)
    (case l40 => k_is)
    (case c40 => k_is)
    (case k40 => k_is)
    (case a41 => k_is)
    (case l41 => k_is)
    (case c41 => k_is)
    (case k41 => k_is)
    (case a42 => k_is)
    (case l42 => k_is)
    (case c42 => k_is)
    (case k42 => k_is)
    (case a43 => k_is)
    (case l43 => k_is)
    (case c43 => k_is)
    (case k43 => k_is)
    (case a44 => k_is)
    (case l44 => k_is)
    (case c44 => k_is)
    (case k44 => k_is)
    (case a45 => k_is)
    (case l45 => k_is)
    (case c45 => k_is)
    (case k45 => k_is)
    (case a46 => k_is)
    (case l46 => k_is)
    (case c46 => k_is)
    (case k46 => k_is)
    (case a47 => k_is)
    (case l47 => k_is)
    (case c47 => k_is)
    (case k47 => k_is)
    (case a48 => k_is)
    (case l48 => k_is)
    (case c48 => k_is)
    (case k48 => k_is)
    (case a49 => k_is)
    (case l49 => k_is)
    (case c49 => k_is)
    (case k49 => k_is)
    (case a50 => k_is)
    (case l50 => k_is)
    (case c50 => k_is)
    (case k50 => k_is)
    (case a51 => k_is)
    (case l51 => k_is)
    (case c51 => k_is)
    (case k51 => k_is)
    (case a52 => k_is)
    (case l52 => k_is)
    (case c52 => k_is)
    (case k52 => k_is)
    (case a53 => k_is)
    (case l53 => k_is)
    (case c53 => k_is)
    (case k53 => k_is)
    (case a54 => k_is)
    (case l54 => k_is)
    (case c54 => k_is)
    (case k54 => k_is)
    (case a55 => k_is)
    (case l55 => k_is)
    (case c55 => k_is)
    (case k55 => k_is)
    (case a56 => k_is)
    (case l56 => k_is)
    (case c56 => k_is)
    (case k56 => k_is)
    (case a57 => k_is)
    (case l57 => k_is)
    (case c57 => k_is)
    (case k57 => k_is)
    (case a58 => k_is)
    (case l58 => k_is)
    (case c58 => k_is)
    (case k58 => k_is)
    (case a59 => k_is)
    (case l59 => k_is)
    (case c59 => k_is)
    (case k59 => k_is)
    (case a60 => k_is)
    (case l60 => k_is)
    (case c60 => k_is)
    (case k60 => k_is)
    (case a61 => k_is)
    (case l61 => k_is)
    (case c61 => k_is)
    (case k61 => k_is)
    (case a62 => k_is)
    (case l62 => k_is)
    (case c62 => k_is)
    (case k62 => k_is)
    (case z_ValueError => k_is)
    (case z_abs => k_is)
    (case z_all => k_is)
    (case z_bool => k_is)
    (case z_dict => k_is)
    (case z_divmod => k_is)
    (case z_int => k_is)
    (case z_isinstance => k_is)
    (case z_len => k_is)
    (case z_list => k_is)
    (case z_max => k_is)
    (case z_min => k_is)
    (case z_range => k_is)
    (case z_set => k_is)
    (case z_str => k_is)
    (case z_tuple => k_is)
    (case z_gcd => k_is)
    (case z_MOST_LETTERS => k_is)
    (case z_MOST_KETTLES => k_is)
    (case z_MOST_MOULDS => k_is)
    (case z_MOST_ROOM => k_is)
    (case z_MOST_FIRE => k_is)
    (case z_MOST_MARK_BOTTOM => k_is)
    (case z_MOST_DRIP_BOTTOM => k_is)
    (case z_MOST_BOTTOM => k_is)
    (case y_BoilError => k_is)
    (case y_NoKettle => k_is)
    (case y_NoRoom => k_is)
    (case y_NoShare => k_is)
    (case y_Empty => k_is)
    (case y_Same => k_is)
    (case y_Stopped => k_is)
    (case y_InWork => k_is)
    (case y_BadDeed => k_is)
    (case y_BadFrac => k_is)
    (case y_BadKettles => k_is)
    (case y_BadMoulds => k_is)
    (case y_BadRow => k_is)
    (case y_Cured => k_is)
    (case y_NoHour => k_is)
    (case y_NoMould => k_is)
    (case y_NoSteady => k_is)
    (case y_NoTelling => k_is)
    (case y_NotCured => k_is)
    (case y_NotReady => k_is)
    (case y_TooStrong => k_is)
    (case xL_NoKettle => k_is)
    (case xsa_NoKettle => k_is)
    (case xex_NoKettle => k_is)
    (case xty_NoKettle => k_is)
    (case xk_NoKettle => k_is)
    (case xi_NoKettle => k_is)
    (case xti_NoKettle => k_is)
    (case xl_NoKettle => k_is)
    (case xc_NoKettle => k_is)
    (case xki_NoKettle => k_is)
    (case ecl_NoKettle => k_is)
    (case ega_NoKettle => k_is)
    (case egg_NoKettle => k_is)
    (case ecs_NoKettle => k_is)
    (case ege_NoKettle => k_is)
    (case etk_NoKettle => k_is)
    (case eob_NoKettle => k_is)
    (case edi_NoKettle => k_is)
    (case efw_NoKettle => k_is)
    (case ern_NoKettle => k_is)
    (case efc_NoKettle => k_is)
    (case efl_NoKettle => k_is)
    (case xL_NoRoom => k_is)
    (case xsa_NoRoom => k_is)
    (case xex_NoRoom => k_is)
    (case xty_NoRoom => k_is)
    (case xk_NoRoom => k_is)
    (case xi_NoRoom => k_is)
    (case xti_NoRoom => k_is)
    (case xl_NoRoom => k_is)
    (case xc_NoRoom => k_is)
    (case xki_NoRoom => k_is)
    (case ecl_NoRoom => k_is)
    (case ega_NoRoom => k_is)
    (case egg_NoRoom => k_is)
    (case ecs_NoRoom => k_is)
    (case ege_NoRoom => k_is)
    (case etk_NoRoom => k_is)
    (case eob_NoRoom => k_is)
    (case edi_NoRoom => k_is)
    (case efw_NoRoom => k_is)
    (case ern_NoRoom => k_is)
    (case efc_NoRoom => k_is)
    (case efl_NoRoom => k_is)
    (case xL_NoShare => k_is)
    (case xsa_NoShare => k_is)
    (case xex_NoShare => k_is)
    (case xty_NoShare => k_is)
    (case xk_NoShare => k_is)
    (case xi_NoShare => k_is)
    (case xti_NoShare => k_is)
    (case xl_NoShare => k_is)
    (case xc_NoShare => k_is)
    (case xki_NoShare => k_is)
    (case ecl_NoShare => k_is)
    (case ega_NoShare => k_is)
    (case egg_NoShare => k_is)
    (case ecs_NoShare => k_is)
    (case ege_NoShare => k_is)
    (case etk_NoShare => k_is)
    (case eob_NoShare => k_is)
    (case edi_NoShare => k_is)
    (case efw_NoShare => k_is)
    (case ern_NoShare => k_is)
    (case efc_NoShare => k_is)
    (case efl_NoShare => k_is)
    (case xL_Empty => k_is)
    (case xsa_Empty => k_is)
    (case xex_Empty => k_is)
    (case xty_Empty => k_is)
    (case xk_Empty => k_is)
    (case xi_Empty => k_is)
    (case xti_Empty => k_is)
    (case xl_Empty => k_is)
    (case xc_Empty => k_is)
    (case xki_Empty => k_is)
    (case ecl_Empty => k_is)
    (case ega_Empty => k_is)
    (case egg_Empty => k_is)
    (case ecs_Empty => k_is)
    (case ege_Empty => k_is)
    (case etk_Empty => k_is)
    (case eob_Empty => k_is)
    (case edi_Empty => k_is)
    (case efw_Empty => k_is)
    (case ern_Empty => k_is)
    (case efc_Empty => k_is)
    (case efl_Empty => k_is)
    (case xL_Same => k_is)
    (case xsa_Same => k_is)
    (case xex_Same => k_is)
    (case xty_Same => k_is)
    (case xk_Same => k_is)
    (case xi_Same => k_is)
    (case xti_Same => k_is)
    (case xl_Same => k_is)
    (case xc_Same => k_is)
    (case xki_Same => k_is)
    (case ecl_Same => k_is)
    (case ega_Same => k_is)
    (case egg_Same => k_is)
    (case ecs_Same => k_is)
    (case ege_Same => k_is)
    (case etk_Same => k_is)
    (case eob_Same => k_is)
    (case edi_Same => k_is)
    (case efw_Same => k_is)
    (case ern_Same => k_is)
    (case efc_Same => k_is)
    (case efl_Same => k_is)
    (case xL_Stopped => k_is)
    (case xsa_Stopped => k_is)
    (case xex_Stopped => k_is)
    (case xty_Stopped => k_is)
    (case xk_Stopped => k_is)
    (case xi_Stopped => k_is)
    (case xti_Stopped => k_is)
    (case xl_Stopped => k_is)
    (case xc_Stopped => k_is)
    (case xki_Stopped => k_is)
    (case ecl_Stopped => k_is)
    (case ega_Stopped => k_is)
    (case egg_Stopped => k_is)
    (case ecs_Stopped => k_is)
    (case ege_Stopped => k_is)
    (case etk_Stopped => k_is)
    (case eob_Stopped => k_is)
    (case edi_Stopped => k_is)
    (case efw_Stopped => k_is)
    (case ern_Stopped => k_is)
    (case efc_Stopped => k_is)
    (case efl_Stopped => k_is)
    (case xL_InWork => k_is)
    (case xsa_InWork => k_is)
    (case xex_InWork => k_is)
    (case xty_InWork => k_is)
    (case xk_InWork => k_is)
    (case xi_InWork => k_is)
    (case xti_InWork => k_is)
    (case xl_InWork => k_is)
    (case xc_InWork => k_is)
    (case xki_InWork => k_is)
    (case ecl_InWork => k_is)
    (case ega_InWork => k_is)
    (case egg_InWork => k_is)
    (case ecs_InWork => k_is)
    (case ege_InWork => k_is)
    (case etk_InWork => k_is)
    (case eob_InWork => k_is)
    (case edi_InWork => k_is)
    (case efw_InWork => k_is)
    (case ern_InWork => k_is)
    (case efc_InWork => k_is)
    (case efl_InWork => k_is)
    (case ic_BoilError => k_is)
    (case it_BoilError => k_is)
    (case ic_BadDeed => k_is)
    (case it_BadDeed => k_is)
    (case ic_BadFrac => k_is)
    (case it_BadFrac => k_is)
    (case ic_BadKettles => k_is)
    (case it_BadKettles => k_is)
    (case ic_BadMoulds => k_is)
    (case it_BadMoulds => k_is)
    (case ic_BadRow => k_is)
    (case it_BadRow => k_is)
    (case ic_Cured => k_is)
    (case it_Cured => k_is)
    (case ic_NoHour => k_is)
    (case it_NoHour => k_is)
    (case ic_NoMould => k_is)
    (case it_NoMould => k_is)
    (case ic_NoSteady => k_is)
    (case it_NoSteady => k_is)
    (case ic_NoTelling => k_is)
    (case it_NoTelling => k_is)
    (case ic_NotCured => k_is)
    (case it_NotCured => k_is)
    (case ic_NotReady => k_is)
    (case it_NotReady => k_is)
    (case ic_TooStrong => k_is)
    (case it_TooStrong => k_is)
    (case ibx => k_is)
    (case su_NoKettle_BoilError => k_is)
    (case su_NoRoom_BoilError => k_is)
    (case su_NoShare_BoilError => k_is)
    (case su_Empty_BoilError => k_is)
    (case su_Same_BoilError => k_is)
    (case su_Stopped_BoilError => k_is)
    (case su_InWork_BoilError => k_is)
    (case su_NoKettle_NoKettle => k_is)
    (case su_NoKettle_NoRoom => k_is)
    (case su_NoKettle_NoShare => k_is)
    (case su_NoKettle_Empty => k_is)
    (case su_NoKettle_Same => k_is)
    (case su_NoKettle_Stopped => k_is)
    (case su_NoKettle_InWork => k_is)
    (case su_NoKettle_BadDeed => k_is)
    (case su_NoKettle_BadFrac => k_is)
    (case su_NoKettle_BadKettles => k_is)
    (case su_NoKettle_BadMoulds => k_is)
    (case su_NoKettle_BadRow => k_is)
    (case su_NoKettle_Cured => k_is)
    (case su_NoKettle_NoHour => k_is)
    (case su_NoKettle_NoMould => k_is)
    (case su_NoKettle_NoSteady => k_is)
    (case su_NoKettle_NoTelling => k_is)
    (case su_NoKettle_NotCured => k_is)
    (case su_NoKettle_NotReady => k_is)
    (case su_NoKettle_TooStrong => k_is)
    (case su_NoRoom_NoKettle => k_is)
    (case su_NoRoom_NoRoom => k_is)
    (case su_NoRoom_NoShare => k_is)
    (case su_NoRoom_Empty => k_is)
    (case su_NoRoom_Same => k_is)
    (case su_NoRoom_Stopped => k_is)
    (case su_NoRoom_InWork => k_is)
    (case su_NoRoom_BadDeed => k_is)
    (case su_NoRoom_BadFrac => k_is)
    (case su_NoRoom_BadKettles => k_is)
    (case su_NoRoom_BadMoulds => k_is)
    (case su_NoRoom_BadRow => k_is)
    (case su_NoRoom_Cured => k_is)
    (case su_NoRoom_NoHour => k_is)
    (case su_NoRoom_NoMould => k_is)
    (case su_NoRoom_NoSteady => k_is)
    (case su_NoRoom_NoTelling => k_is)
    (case su_NoRoom_NotCured => k_is)
    (case su_NoRoom_NotReady => k_is)
    (case su_NoRoom_TooStrong => k_is)
    (case su_NoShare_NoKettle => k_is)
    (case su_NoShare_NoRoom => k_is)
    (case su_NoShare_NoShare => k_is)
    (case su_NoShare_Empty => k_is)
    (case su_NoShare_Same => k_is)
    (case su_NoShare_Stopped => k_is)
    (case su_NoShare_InWork => k_is)
    (case su_NoShare_BadDeed => k_is)
    (case su_NoShare_BadFrac => k_is)
    (case su_NoShare_BadKettles => k_is)
    (case su_NoShare_BadMoulds => k_is)
    (case su_NoShare_BadRow => k_is)
    (case su_NoShare_Cured => k_is)
    (case su_NoShare_NoHour => k_is)
    (case su_NoShare_NoMould => k_is)
    (case su_NoShare_NoSteady => k_is)
    (case su_NoShare_NoTelling => k_is)
    (case su_NoShare_NotCured => k_is)
    (case su_NoShare_NotReady => k_is)
    (case su_NoShare_TooStrong => k_is)
    (case su_Empty_NoKettle => k_is)
    (case su_Empty_NoRoom => k_is)
    (case su_Empty_NoShare => k_is)
    (case su_Empty_Empty => k_is)
    (case su_Empty_Same => k_is)
    (case su_Empty_Stopped => k_is)
    (case su_Empty_InWork => k_is)
    (case su_Empty_BadDeed => k_is)
    (case su_Empty_BadFrac => k_is)
    (case su_Empty_BadKettles => k_is)
    (case su_Empty_BadMoulds => k_is)
    (case su_Empty_BadRow => k_is)
    (case su_Empty_Cured => k_is)
    (case su_Empty_NoHour => k_is)
    (case su_Empty_NoMould => k_is)
    (case su_Empty_NoSteady => k_is)
    (case su_Empty_NoTelling => k_is)
    (case su_Empty_NotCured => k_is)
    (case su_Empty_NotReady => k_is)
    (case su_Empty_TooStrong => k_is)
    (case su_Same_NoKettle => k_is)
    (case su_Same_NoRoom => k_is)
    (case su_Same_NoShare => k_is)
    (case su_Same_Empty => k_is)
    (case su_Same_Same => k_is)
    (case su_Same_Stopped => k_is)
    (case su_Same_InWork => k_is)
    (case su_Same_BadDeed => k_is)
    (case su_Same_BadFrac => k_is)
    (case su_Same_BadKettles => k_is)
    (case su_Same_BadMoulds => k_is)
    (case su_Same_BadRow => k_is)
    (case su_Same_Cured => k_is)
    (case su_Same_NoHour => k_is)
    (case su_Same_NoMould => k_is)
    (case su_Same_NoSteady => k_is)
    (case su_Same_NoTelling => k_is)
    (case su_Same_NotCured => k_is)
    (case su_Same_NotReady => k_is)
    (case su_Same_TooStrong => k_is)
    (case su_Stopped_NoKettle => k_is)
    (case su_Stopped_NoRoom => k_is)
    (case su_Stopped_NoShare => k_is)
    (case su_Stopped_Empty => k_is)
    (case su_Stopped_Same => k_is)
    (case su_Stopped_Stopped => k_is)
    (case su_Stopped_InWork => k_is)
    (case su_Stopped_BadDeed => k_is)
    (case su_Stopped_BadFrac => k_is)
    (case su_Stopped_BadKettles => k_is)
    (case su_Stopped_BadMoulds => k_is)
    (case su_Stopped_BadRow => k_is)
    (case su_Stopped_Cured => k_is)
    (case su_Stopped_NoHour => k_is)
    (case su_Stopped_NoMould => k_is)
    (case su_Stopped_NoSteady => k_is)
    (case su_Stopped_NoTelling => k_is)
    (case su_Stopped_NotCured => k_is)
    (case su_Stopped_NotReady => k_is)
    (case su_Stopped_TooStrong => k_is)
    (case su_InWork_NoKettle => k_is)
    (case su_InWork_NoRoom => k_is)
    (case su_InWork_NoShare => k_is)
    (case su_InWork_Empty => k_is)
    (case su_InWork_Same => k_is)
    (case su_InWork_Stopped => k_is)
    (case su_InWork_InWork => k_is)
    (case su_InWork_BadDeed => k_is)
    (case su_InWork_BadFrac => k_is)
    (case su_InWork_BadKettles => k_is)
    (case su_InWork_BadMoulds => k_is)
    (case su_InWork_BadRow => k_is)
    (case su_InWork_Cured => k_is)
    (case su_InWork_NoHour => k_is)
    (case su_InWork_NoMould => k_is)
    (case su_InWork_NoSteady => k_is)
    (case su_InWork_NoTelling => k_is)
    (case su_InWork_NotCured => k_is)
    (case su_InWork_NotReady => k_is)
    (case su_InWork_TooStrong => k_is)
    (case ive_NoKettle => k_is)
    (case ive_NoRoom => k_is)
    (case ive_NoShare => k_is)
    (case ive_Empty => k_is)
    (case ive_Same => k_is)
    (case ive_Stopped => k_is)
    (case ive_InWork => k_is)
    (case z_NOUGHT => k_is)
    (case l_NOUGHT => k_is)
    (case z_ONE => k_is)
    (case l_ONE => k_is)
    (case z_NOTHING => k_is)
    (case l_NOTHING => k_is)
    (case lx_NOTHING => k_is)
    (case ly_NOTHING => k_is)
#print axioms PySem.Challenge.cw_kettlerow_k27_nothing_is_lost_but_told_holds
