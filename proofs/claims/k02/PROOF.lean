import PyProof.Rows.All
import Wide.All
import OpenK.AllK
import Wide.FinOn
import KE.KStateDown
import Lean
import HandS.Base
import HandS.Call
import HandS.List
import HandS.Comp
import HandS.Ends
import HandS.Dict
import HandS.Iter
import HandS.Text
import HandS.More
import HandS.Words
import HandS.WordsList
import HandS.WordsDict
import HandS.Exc
import HandS.ExcOwn
import HandS.TryOnly
import HandS.WordsExc
import HandS.Defaults
import HandS.Codes
import HandS.CallSlots
import HandS.Steps
import HandS.Style
import HandS.Wide
import HandS.WideMore
import HandS.WideBits
import HandS.IsInst
import HandS.ExcInit
import HandS.ExcField
import HandS.ExcIs
import HandS.Gcd
import HandS.FStr
import HandS.RaiseMore
import HandS.Head0
import HandS.Head1
import HandS.Head2
import HandS.Head3
import HandS.HeadEnd
import HandS.HeadHook1
import HandS.HeadHook2
import HandS.HeadHook3
import HandS.HeadHook4
import HandS.Evl
import PySem.Challenge.RW_mendrounds_k02_numbers_compared
set_option Elab.async false
set_option linter.all false
set_option maxRecDepth 100000
set_option maxHeartbeats 4000000
namespace Md
open PySem PySem.Spec PyProof.Rows PySem.Calls L2

/-! ### where the classes and tables of the program stand -/
structure Ads where
  cMendroundsError : Addr := 0
  cBadNumber : Addr := 0
  cBadLayout : Addr := 0
  cBadField : Addr := 0
  cBadValue : Addr := 0
  cBadFilling : Addr := 0
  cBadCondition : Addr := 0
  cBadCheck : Addr := 0
  cBadForm : Addr := 0
  cBadPattern : Addr := 0
  cNoFilling : Addr := 0
  cUnlike : Addr := 0
  cTooMany : Addr := 0
  cBadTelling : Addr := 0
  cBadChange : Addr := 0
  cBadBatch : Addr := 0
  cNoCheck : Addr := 0
  cNotTold : Addr := 0
  cRefused : Addr := 0
  cLocked : Addr := 0
  cUnmet : Addr := 0
  cClosed : Addr := 0
  cStarted : Addr := 0
  cLayout : Addr := 0
  cSpace : Addr := 0
  gRESERVED : Addr := 0

/-! ### readings by short names -/
abbrev rAdd : R2 := rI0 fun i j => .int (i + j)
abbrev rSub : R2 := rI0 fun i j => .int (i - j)
abbrev rMulW : R2 := rI CMulW fun i j => .int (i * j)
abbrev rMul : R2 := rI CMul fun i j => .int (i * j)
abbrev rFdvW : R2 := rI CDivW fun i j => .int (i / j)
abbrev rMod : R2 := rI (fun _ j => 0 < j) fun i j => .int (i % j)
abbrev rPow : R2 := rI CPow fun i j => .int (i ^ j.toNat)
abbrev rLt : R2 := rI0 fun i j => .bl (decide (i < j))
abbrev rLe : R2 := rI0 fun i j => .bl (decide (i ≤ j))
abbrev rGt : R2 := rI0 fun i j => .bl (decide (j < i))
abbrev rGe : R2 := rI0 fun i j => .bl (decide (j ≤ i))
abbrev rNeg : V → Hp → VK → Prop := rU fun i => .int (-i)
abbrev rAbs : List V → Hp → VK → Prop := fun xs H Q => ∃ i, xs = [.int i] ∧ Q (.int (if i < 0 then -i else i)) H
abbrev rMax2 : List V → Hp → VK → Prop := fun xs H Q => ∃ i j, xs = [.int i, .int j] ∧ Q (.int (if j > i then j else i)) H
abbrev rMin2 : List V → Hp → VK → Prop := fun xs H Q => ∃ i j, xs = [.int i, .int j] ∧ Q (.int (if j < i then j else i)) H
abbrev rInt1 : List V → Hp → VK → Prop := fun xs H Q => (∃ i, xs = [.int i] ∧ Q (.int i) H) ∨ ∃ k, xs = [.bl k] ∧ Q (.int (if k then 1 else 0)) H
abbrev rStrI : List V → Hp → VK → Prop := fun xs H Q => ∃ i : Int, xs = [.int i] ∧ i.natAbs.log2 < 1920 ∧ Q (.str (toString i)) H
abbrev rAddS : R2 := fun x y H Q => ∃ i j, x = .str i ∧ y = .str j ∧ i.length + j.length ≤ sizeLine ∧ Q (.str (i ++ j)) H
abbrev tRaise (E : XK) (t : L2.St → Hp → XK → Prop) : TS := fun _ σ H => t σ H fun cls d H' => E cls d H'
abbrev tTru (K : PySem.W.Frag) (ta : TE) : TT := fun σ H Q => ta σ H fun x H' => ∃ k, TruV K x H' k ∧ Q k H'
/-- // by any divisor but 0 -/
def CDivG (_ j : Int) : Prop := j ≠ 0 ∧ j.natAbs.log2 < 9000
abbrev rFdvG : R2 := rI CDivG fun i j => .int (i.fdiv j)
theorem op_fdivG {X : Cx} : OpR X (binaryOp .FloorDiv) rFdvG := opI fun i j _ _ _ _ _ hc q => floordiv_int hc.1 q (.inl (PyProof.noPylong_of_log2 hc.2))
theorem gStr {mg : Str → Option Value} {x z : Str} (h : ∃ t, mg x = some (.str z t)) : ∃ u, mg x = some u ∧ RelV (.str z) u := by
  obtain ⟨t, e⟩ := h
  exact ⟨_, e, t, rfl⟩
theorem gInt {mg : Str → Option Value} {x : Str} {i : Int} (h : ∃ t, mg x = some (.int i t)) : ∃ u, mg x = some u ∧ RelV (.int i) u := by
  obtain ⟨t, e⟩ := h
  exact ⟨_, e, t, rfl⟩

/-! ### a def as its callers see it -/
structure Cl (P : Program) (w : World) (K : PySem.W.Frag) (mg : Str → Option Value) (base : Heap) (k : Nat) (x : Str) (sp : Sp) (dvs : List V) : Prop where
  ex : ∃ (f : Addr) (fd : FuncData) (ps : List Str) (ds : List Value), FnOk P w K mg base (L2.CX P w) k f fd ps sp ∧ mg x = some (.ref f) ∧ PySem.W.keepIn K (.ref f) = true ∧ Binds K fd ps ds ∧ Vals dvs ds
/-- a class over ValueError with an __init__ of its own, as it is raised -/
structure Kx (P : Program) (w : World) (K : PySem.W.Frag) (mg : Str → Option Value) (base : Heap) (k : Nat) (x : Str) (C : Addr) (sp : Sp) : Prop where
  T : OexC K C
  ex : ∃ (fI : Addr) (fd : FuncData) (ps : List Str), PySem.W.findIn K (.ref C) "__init__" = some (some (.ref fI)) ∧ PySem.W.typeIn K (.ref fI) = some (.type "function") ∧ FnOk P w K mg base (L2.CX P w) k fI fd ps sp ∧ Binds K fd ps [] ∧ mg x = some (.ref C)
/-- a plain class, as it is made; a method of it -/
structure Km (P : Program) (w : World) (K : PySem.W.Frag) (mg : Str → Option Value) (base : Heap) (k : Nat) (x : Str) (C : Addr) (sp : Sp) : Prop where
  ex : ∃ (fI : Addr) (fd : FuncData) (ps : List Str), Mk K C fI ∧ FnOk P w K mg base (L2.CX P w) k fI fd ps sp ∧ Binds K fd ps [] ∧ mg x = some (.ref C)
structure Mt (P : Program) (w : World) (K : PySem.W.Frag) (mg : Str → Option Value) (base : Heap) (k : Nat) (C : Addr) (m : Str) (sp : Sp) : Prop where
  ex : ∃ (f : Addr) (fd : FuncData) (ps : List Str), Cls K C ∧ Meth K C m f ∧ FnOk P w K mg base (L2.CX P w) k f fd ps sp ∧ Binds K fd ps []
section
variable {X : Cx} {k j : Nat} {C : Addr} {sp : Sp} {dvs : List V} {E : XK} {W : WX} {x m : Str} {p pos apos : Pos} {e o : Expr} {es : List Expr} {ta : TE} {t : TA}
theorem pe_cl (c : Cl X.prog X.w X.K X.mg X.base k x sp dvs) (hr : Room j X.A) (hk : k ≤ j) (hg : Gl X x) (hx : Passes (L2.CX X.prog X.w) X E) (ha : PA X (e :: es) t)
    (hdb : (x == ("__debug__" : Str)) = false := by decide) (he : starEach (e :: es) X.env = (false, eval e X.env) :: starEach es X.env := by rfl) (hpl : (backTo pos (starEach es X.env)).any (·.1) = false := by rfl) :
    PE X (.Call (.Name x p) (e :: es) [] pos) (tCall sp dvs E t) := by
  obtain ⟨f, fd, ps, ds, F, hm, kp, b, d⟩ := c.ex
  exact pe_call F (hr.mono hk) hg hm kp b d hx ha hdb he hpl
theorem pe_clS (c : Cl X.prog X.w X.K X.mg X.base k x sp dvs) (hr : Room j X.A) (hk : k ≤ j) (hg : Gl X x) (hx : ∀ σ, PassesAt (L2.CX X.prog X.w) X σ (WE W σ)) (ha : PA X (e :: es) t)
    (hdb : (x == ("__debug__" : Str)) = false := by decide) (he : starEach (e :: es) X.env = (false, eval e X.env) :: starEach es X.env := by rfl) (hpl : (backTo pos (starEach es X.env)).any (·.1) = false := by rfl) :
    PE X (.Call (.Name x p) (e :: es) [] pos) (tCallSD sp dvs (WE W) t) := by
  obtain ⟨f, fd, ps, ds, F, hm, kp, b, d⟩ := c.ex
  exact pe_callSD F (hr.mono hk) hg hm kp b d hx ha hdb he hpl
theorem pmk_cl (c : Kx X.prog X.w X.K X.mg X.base k x C sp) (hr : Room j X.A) (hk : k + 1 ≤ j) (hg : Gl X x) (ha : PA X (e :: es) t)
    (hdb : (x == ("__debug__" : Str)) = false := by decide) (he : starEach (e :: es) X.env = (false, eval e X.env) :: starEach es X.env := by rfl) (hpl : (backTo pos (starEach es X.env)).any (·.1) = false := by rfl) :
    PMk X (.Call (.Name x p) (e :: es) [] pos) (tMkO C sp [] t) := by
  obtain ⟨fI, fd, ps, h1, h2, F, b, hm⟩ := c.ex
  exact pmk_oex c.T h1 h2 F (hr.mono hk) b .nil passL hg hm ha hdb he hpl
theorem pe_mk2 (c : Km X.prog X.w X.K X.mg X.base k x C sp) (hr : Room j X.A) (hk : k + 1 ≤ j) (hg : Gl X x) (hx : Passes (L2.CX X.prog X.w) X E) (ha : PA X (e :: es) t)
    (hdb : (x == ("__debug__" : Str)) = false := by decide) (he : starEach (e :: es) X.env = (false, eval e X.env) :: starEach es X.env := by rfl) (hpl : (backTo pos (starEach es X.env)).any (·.1) = false := by rfl) :
    PE X (.Call (.Name x p) (e :: es) [] pos) (tMake C sp [] E t) := by
  obtain ⟨fI, fd, ps, M, F, b, hm⟩ := c.ex
  exact pe_make M F (hr.mono hk) hg hm b .nil hx ha hdb he hpl
end
/-! ### the end of a def's row -/
theorem cl_of {P : Program} {w : World} {K : PySem.W.Frag} {mg : Str → Option Value} {base : Heap} {k : Nat} {x : Str} {f : Addr} {fd : FuncData} {ps : List Str} {sp : Sp}
    (G : FnOk P w K mg base (L2.CX P w) k f fd ps sp) (g : mg x = some (.ref f)) (kp : PySem.W.keepIn K (.ref f) = true) (b : Binds K fd ps []) : Cl P w K mg base k x sp [] := ⟨_, _, _, _, G, g, kp, b, .nil⟩
/-- what the written part says of such a class, as one Bool -/
def clsB (K : PySem.W.Frag) (C : Addr) : Bool := match K.lookup C with
  | some ⟨.type "type", _, .cls cd, sl⟩ => (match cd.mro, sl.toList with
    | .ref C' :: bm, [_, _, _, _, some (.builtin n), _] => C' == C && (n == "ValueError.__new__" && (!cd.hasDel && (cd.hasDict && PySem.HandSPX.refsVE bm)))
    | _, _ => false)
  | _ => false
theorem clsB_ok {K : PySem.W.Frag} {C : Addr} (h : clsB K C = true) : ∃ nm q N bs bm sn sub ab col dd k0 k1 k2 k3 k5, K.lookup C = some (excClassObj nm q C N bs bm true sn sub ab col dd k0 k1 k2 k3 k5 "ValueError.__new__") ∧ PySem.HandSPX.refsVE bm = true := by
  unfold clsB at h
  split at h
  · rename_i dd cd sl e
    split at h
    · rename_i C' bm a b c d n f e1 e2
      obtain ⟨nm, bs, mro, ns, qn, hd, sn, sb, ab, col, del⟩ := cd
      obtain ⟨h1, h⟩ := Bool.and_eq_true_iff.mp h
      obtain ⟨h2, h⟩ := Bool.and_eq_true_iff.mp h
      obtain ⟨h3, h⟩ := Bool.and_eq_true_iff.mp h
      obtain ⟨h4, h5⟩ := Bool.and_eq_true_iff.mp h
      have e3 : C' = C := eq_of_beq h1
      have e4 : n = "ValueError.__new__" := eq_of_beq h2
      have e5 : del = false := by
        cases del with
        | false => rfl
        | true => cases h3
      have e6 : hd = true := h4
      have e7 : mro = .ref C' :: bm := e1
      have e8 : sl = #[a, b, c, d, some (.builtin n), f] := by
        have := congrArg List.toArray e2
        simpa using this
      subst e3 e4 e5 e6 e7 e8
      exact ⟨nm, qn, ns, bs, bm, sn, sb, ab, col, dd, a, b, c, d, f, e, h5⟩
    · cases h
  · cases h
def oexB (K : PySem.W.Frag) (C : Addr) : Bool := clsB K C && (decide (PySem.W.findIn K (.ref C) "__setattr__" = some (some (.builtin "object.__setattr__"))) && (decide (PySem.W.subIn K (.ref C) (.type "BaseException") = some true) &&
  (decide (PySem.W.typeIn K (.ref C) = some (.type "type")) && PySem.W.keepIn K (.ref C))))
theorem oexB_ok {K : PySem.W.Frag} {C : Addr} (h : oexB K C = true) : OexC K C := by
  obtain ⟨h1, h⟩ := Bool.and_eq_true_iff.mp h
  obtain ⟨h2, h⟩ := Bool.and_eq_true_iff.mp h
  obtain ⟨h3, h⟩ := Bool.and_eq_true_iff.mp h
  obtain ⟨h4, h5⟩ := Bool.and_eq_true_iff.mp h
  exact ⟨clsB_ok h1, of_decide_eq_true h2, of_decide_eq_true h3, of_decide_eq_true h4, h5⟩
/-- __init__ of such a class is the def at ma -/
def inoB (K : PySem.W.Frag) (C : Addr) : Bool := decide (PySem.W.findIn K (.ref C) "__init__" = some (some (.ref (He.ma K C "__init__")))) && decide (PySem.W.typeIn K (.ref (He.ma K C "__init__")) = some (.type "function"))
theorem inoB_ok {K : PySem.W.Frag} {C : Addr} (h : inoB K C = true) : PySem.W.findIn K (.ref C) "__init__" = some (some (.ref (He.ma K C "__init__"))) ∧ PySem.W.typeIn K (.ref (He.ma K C "__init__")) = some (.type "function") := by
  obtain ⟨h1, h2⟩ := Bool.and_eq_true_iff.mp h
  exact ⟨of_decide_eq_true h1, of_decide_eq_true h2⟩
def noB (K : PySem.W.Frag) (C : Addr) (f : Str) : Bool := decide (PySem.W.findIn K (.ref C) f = some none)
theorem noB_ok {K : PySem.W.Frag} {C : Addr} {f : Str} (h : noB K C f = true) : PySem.W.findIn K (.ref C) f = some none := of_decide_eq_true h
end Md

set_option Elab.async false
set_option linter.all false
set_option maxRecDepth 100000
set_option maxHeartbeats 4000000
namespace Md
open PySem PySem.Spec PyProof.Rows PySem.Calls L2

/-! ### ways of a test -/
theorem iteD {p A B : Prop} [Decidable p] (h1 : p → A) (h2 : ¬ p → B) : if decide p = true then A else B := by
  by_cases h : p
  · rw [if_pos (decide_eq_true h)]; exact h1 h
  · rw [if_neg (by simp [h])]; exact h2 h
theorem iteN {p A B : Prop} [Decidable p] (h1 : p → B) (h2 : ¬ p → A) : if (!decide p) = true then A else B := by
  by_cases h : p
  · rw [if_neg (by simp [h])]; exact h1 h
  · rw [if_pos (by simp [h])]; exact h2 h
theorem iteB {b : Bool} {A B : Prop} (h1 : b = true → A) (h2 : b = false → B) : if b = true then A else B := by
  cases b with
  | true => rw [if_pos rfl]; exact h1 rfl
  | false => rw [if_neg (by decide)]; exact h2 rfl
theorem iteBN {b : Bool} {A B : Prop} (h1 : b = true → B) (h2 : b = false → A) : if (!b) = true then A else B := by
  cases b with
  | true => rw [if_neg (by decide)]; exact h1 rfl
  | false => rw [if_pos (by decide)]; exact h2 rfl
/-! ### heaps: all but the list at b stands -/
def Xb (b : Addr) (H H' : Hp) : Prop := ∀ a o, a ≠ b → H a = some o → H' a = some o
theorem Xb.refl {b : Addr} {H : Hp} : Xb b H H := fun _ _ _ h => h
theorem Xb.trans {b : Addr} {H H1 H2 : Hp} (x : Xb b H H1) (y : Xb b H1 H2) : Xb b H H2 := fun a o n h => y a o n (x a o n h)
theorem Xb.upd {b : Addr} {H H' : Hp} {o : HO} (x : Xb b H H') : Xb b H (upd H' b o) := fun a u n h => by
  rw [upd_ne n]
  exact x a u n h
theorem Xb.of {b : Addr} {H H' : Hp} (x : Same H H') : Xb b H H' := fun a o _ h => x a o h
theorem Same.new {H : Hp} {p : Addr} {o : HO} (h : H p = none) : Same H (L2.upd H p o) := fun a u e => by
  rw [upd_ne (ne_of_none e h)]
  exact e
theorem Xb.tup {b a : Addr} {H H' : Hp} {L xs : List V} (x : Xb b H H') (hb : H b = some (.lst L)) (h : H a = some (.tup xs)) : H' a = some (.tup xs) :=
  x a _ (ne_of h hb (by intro z; cases z)) h
/-- the draws' list: the digits, the seed, the count; n draws are left -/
def Bag (n : Nat) (H : Hp) (b : Addr) : Prop := ∃ L S C : Int, H b = some (.lst [.int L, .int S, .int C]) ∧ 0 ≤ L ∧ 0 ≤ S ∧ S < 16140901064496457664 ∧ 0 ≤ C ∧ C + n ≤ 549755813888
theorem Bag.mono {n m : Nat} {H : Hp} {b : Addr} (h : Bag n H b) (l : m ≤ n) : Bag m H b := by
  obtain ⟨L, S, C, e, h1, h2, h3, h4, h5⟩ := h
  exact ⟨L, S, C, e, h1, h2, h3, h4, by omega⟩
theorem Bag.same {n : Nat} {H H' : Hp} {b : Addr} (h : Bag n H b) (s : Same H H') : Bag n H' b := by
  obtain ⟨L, S, C, e, h⟩ := h
  exact ⟨L, S, C, s _ _ e, h⟩
theorem Bag.at_ {n : Nat} {H : Hp} {b : Addr} (h : Bag n H b) : ∃ L, H b = some (.lst L) := by
  obtain ⟨L, S, C, e, _⟩ := h
  exact ⟨_, e⟩
theorem Xb.tupB {n : Nat} {b a : Addr} {H H' : Hp} {xs : List V} (x : Xb b H H') (hb : Bag n H b) (h : H a = some (.tup xs)) : H' a = some (.tup xs) := by
  obtain ⟨L, e⟩ := hb.at_
  exact x.tup e h
theorem pow_lt {x : Int} {k : Nat} (h : x.natAbs < 2 ^ k) (hk : 0 < k) : x.natAbs.log2 < k := PySem.Flt.log2_lt_of hk h

theorem CMulW.small {i j : Int} (hi : i.natAbs < 2 ^ 64) (h0 : 0 ≤ j) (h1 : j < 2 ^ 64) : CMulW i j := wide_mul (a := 64) (b := 64) hi (by omega) (by decide) (by decide) (by decide)
/-! ### _law_take -/
def t__law_take (K : PySem.W.Frag) (A : Ads) (E : XK) : TS :=
    (tSeq (tIfS (tTest (tOp rGt (tOp (rIx K) (tVar 0) (tC (.int 0))) (tC (.int 0)))) (tSeq (tAsg (tOp rMod (tCB rInt1 (tCons (tOp (rIx K) (tVar 0) (tC (.int 0))) tNil)) (tVar 1)) (gName 3))
    (tSeq (tAsg (tOp rFdvW (tOp (rIx K) (tVar 0) (tC (.int 0))) (tVar 1)) (gSub (tVar 0) (tC (.int 0)) rSetL))
    (tRet (tVar 3)))) tNext)
    (tSeq (tAsg (tOp rAdd (tOp (rIx K) (tVar 0) (tC (.int 2))) (tC (.int 1))) (gSub (tVar 0) (tC (.int 2)) rSetL))
    (tSeq (tAsg (tOp rMod (tCB rInt1 (tCons (tOp rPow (tOp rAdd (tOp (rIx K) (tVar 0) (tC (.int 1))) (tOp rMulW (tC (.int 1000003)) (tOp (rIx K) (tVar 0) (tC (.int 2))))) (tC (.int 3))) tNil)) (tC (.int 2305843009213693921))) (gName 2))
    (tSeq (tAsg (tOp rMod (tCB rInt1 (tCons (tOp rPow (tOp rAdd (tVar 2) (tOp rMulW (tC (.int 15485863)) (tOp (rIx K) (tVar 0) (tC (.int 2))))) (tC (.int 2))) tNil)) (tC (.int 2305843009213693951))) (gName 2))
    (tRet (tOp rMod (tCB rInt1 (tCons (tOp rFdvW (tVar 2) (tC (.int 8192))) tNil)) (tVar 1)))))))
def n__law_take : List Str := ["_law_bag_here", "_law_many", "_law_mixed", "_law_digit"]
def sp__law_take (K : PySem.W.Frag) (A : Ads) : Sp := fun vs H Q _ => ∃ (b : Addr) (many : Int) (n : Nat), vs = [.ref b, .int many] ∧ Bag (n + 1) H b ∧ 0 < many ∧ many.natAbs < 2 ^ 9000 ∧
  ∀ d H', 0 ≤ d → d < many → Xb b H H' → Bag n H' b → Q (.int d) H'
theorem len__law_take {K : PySem.W.Frag} {A : Ads} {vs : List V} {H : Hp} {Q : VK} {E : XK} (h : sp__law_take K A vs H Q E) : vs.length = 2 := by
  obtain ⟨b, many, n, rfl, _⟩ := h
  rfl
local macro_rules | `(tactic| walk_at "v") => `(tactic| refine ⟨_, rfl, ?_⟩)
local macro_rules | `(tactic| walk_at "ii") => `(tactic| refine ⟨_, _, rfl, rfl, ?_⟩)
local macro_rules | `(tactic| walk_at "ixL") => `(tactic| refine Or.inl ⟨_, _, _, _, rfl, rfl, SqL.of (by assumption), rfl, ?_⟩)
set_option maxHeartbeats 400000 in
theorem pure__law_take {K : PySem.W.Frag} {A : Ads} {vs : List V} {H : Hp} {Q : VK} {E : XK} (h : sp__law_take K A vs H Q E) :
    t__law_take K A E { nx := fun _ H' => Q .non H', rt := Q } (start n__law_take vs) H := by
  obtain ⟨b, many, n, rfl, ⟨L, S, C, hb, hL, hS, hS2, hC, hCn⟩, hm, hm2, q⟩ := h
  have em : many.natAbs.log2 < 9000 := pow_lt hm2 (by decide)
  walk_at "v"; walk_at "ixL"; walk_at "ii"; walk_at "v"
  refine iteD (fun h0 => ?_) (fun h0 => ?_)
  · walk_at "v"; walk_at "ixL"; refine Or.inl ⟨_, rfl, ?_⟩; walk_at "v"; refine ⟨_, _, rfl, rfl, hm, ?_⟩
    walk_at "v"; walk_at "ixL"; walk_at "v"; refine ⟨_, _, rfl, rfl, ⟨hm, em⟩, ?_⟩
    walk_at "v"; refine ⟨_, _, _, _, rfl, rfl, hb, rfl, ?_⟩
    walk_at "v"
    refine q _ _ (Int.emod_nonneg _ (by omega)) (Int.emod_lt_of_pos _ hm) (Xb.upd Xb.refl) ⟨_, S, C, upd_same, Int.ediv_nonneg hL (by omega), hS, hS2, hC, by omega⟩
  · walk_at "v"; walk_at "ixL"; walk_at "ii"; walk_at "v"; refine ⟨_, _, _, _, rfl, rfl, hb, rfl, ?_⟩
    generalize e2 : upd H b _ = H2
    have hb2 : H2 b = some (.lst [V.int L, V.int S, V.int (C + 1)]) := by rw [← e2]; exact upd_same
    have x2 : Xb b H H2 := by rw [← e2]; exact Xb.upd Xb.refl
    walk_at "v"; walk_at "ixL"; walk_at "v"; walk_at "ixL"; refine ⟨_, _, rfl, rfl, CMulW.small (by decide) (by omega) (by omega), ?_⟩
    walk_at "ii"; refine ⟨_, _, rfl, rfl, ⟨by decide, by decide, by omega⟩, ?_⟩; refine Or.inl ⟨_, rfl, ?_⟩; refine ⟨_, _, rfl, rfl, (by decide : (0 : Int) < 2305843009213693921), ?_⟩
    have b1 := Int.emod_nonneg ((S + 1000003 * (C + 1)) ^ (3 : Int).toNat) (by decide : (2305843009213693921 : Int) ≠ 0)
    have b2 := Int.emod_lt_of_pos ((S + 1000003 * (C + 1)) ^ (3 : Int).toNat) (by decide : (0 : Int) < 2305843009213693921)
    generalize (S + 1000003 * (C + 1)) ^ (3 : Int).toNat % 2305843009213693921 = M at b1 b2 ⊢
    walk_at "v"; walk_at "v"; walk_at "ixL"; refine ⟨_, _, rfl, rfl, CMulW.small (by decide) (by omega) (by omega), ?_⟩
    walk_at "ii"; refine ⟨_, _, rfl, rfl, ⟨by decide, by decide, by omega⟩, ?_⟩; refine Or.inl ⟨_, rfl, ?_⟩; refine ⟨_, _, rfl, rfl, (by decide : (0 : Int) < 2305843009213693951), ?_⟩
    walk_at "v"; refine ⟨_, _, rfl, rfl, ⟨(by decide : (0 : Int) < 8192), by decide +kernel⟩, ?_⟩; refine Or.inl ⟨_, rfl, ?_⟩; walk_at "v"; refine ⟨_, _, rfl, rfl, hm, ?_⟩
    exact q _ _ (Int.emod_nonneg _ (by omega)) (Int.emod_lt_of_pos _ hm) x2 ⟨L, S, C + 1, hb2, hL, hS, hS2, by omega, by omega⟩
end Md

set_option Elab.async false
set_option linter.all false
set_option maxRecDepth 100000
set_option maxHeartbeats 4000000
namespace Md
/-! ### fractions in lowest terms (plain Lean) -/
/-- the greatest common divisor -/
def gI (p q : Int) : Int := ((Nat.gcd p.natAbs q.natAbs : Nat) : Int)
def lowN (p q : Int) : Int := p / gI p q
def lowD (p q : Int) : Int := q / gI p q
def Cop (p q : Int) : Prop := Nat.gcd p.natAbs q.natAbs = 1
theorem gI_pos {p q : Int} (h : q ≠ 0) : 0 < gI p q := by
  unfold gI
  have : 0 < Nat.gcd p.natAbs q.natAbs := Nat.gcd_pos_of_pos_right _ (by omega)
  omega
theorem gI_dvd_l (p q : Int) : gI p q ∣ p := Int.ofNat_dvd_left.mpr (Nat.gcd_dvd_left ..)
theorem gI_dvd_r (p q : Int) : gI p q ∣ q := Int.ofNat_dvd_left.mpr (Nat.gcd_dvd_right ..)
theorem low_l (p q : Int) : gI p q * lowN p q = p := Int.mul_ediv_cancel' (gI_dvd_l p q)
theorem low_r (p q : Int) : gI p q * lowD p q = q := Int.mul_ediv_cancel' (gI_dvd_r p q)
theorem lowD_pos {p q : Int} (h : 0 < q) : 0 < lowD p q := by
  have h1 := gI_pos (p := p) (q := q) (by omega)
  have h2 := low_r p q
  rcases Int.lt_or_le 0 (lowD p q) with h3 | h3
  · exact h3
  · have := Int.mul_nonpos_of_nonneg_of_nonpos (Int.le_of_lt h1) h3
    omega
theorem low_cop {p q : Int} (h : q ≠ 0) : Cop (lowN p q) (lowD p q) := by
  have h1 := gI_pos (p := p) (q := q) h
  have e1 : (gI p q).natAbs * (lowN p q).natAbs = p.natAbs := by rw [← Int.natAbs_mul, low_l]
  have e2 : (gI p q).natAbs * (lowD p q).natAbs = q.natAbs := by rw [← Int.natAbs_mul, low_r]
  have e3 : (gI p q).natAbs = Nat.gcd p.natAbs q.natAbs := by unfold gI; omega
  have e4 : Nat.gcd ((gI p q).natAbs * (lowN p q).natAbs) ((gI p q).natAbs * (lowD p q).natAbs) = (gI p q).natAbs * Nat.gcd (lowN p q).natAbs (lowD p q).natAbs := Nat.gcd_mul_left ..
  rw [e1, e2, ← e3] at e4
  have h5 : 0 < (gI p q).natAbs := by omega
  have e6 : (gI p q).natAbs * 1 = (gI p q).natAbs * Nat.gcd (lowN p q).natAbs (lowD p q).natAbs := by rw [Nat.mul_one]; exact e4
  exact (Nat.eq_of_mul_eq_mul_left h5 e6).symm
theorem low_cross {p q : Int} : lowN p q * q = p * lowD p q := by
  have h1 := low_l p q
  have h2 := low_r p q
  calc lowN p q * q = lowN p q * (gI p q * lowD p q) := by rw [h2]
    _ = (gI p q * lowN p q) * lowD p q := by rw [← Int.mul_assoc, Int.mul_comm (lowN p q)]
    _ = p * lowD p q := by rw [h1]
/-- two fractions in lowest terms of one value are one -/
theorem cop_uniq {p q p' q' : Int} (h : Cop p q) (h' : Cop p' q') (hq : 0 < q) (hq' : 0 < q') (e : p * q' = p' * q) : p = p' ∧ q = q' := by
  have e2 : p.natAbs * q'.natAbs = p'.natAbs * q.natAbs := by rw [← Int.natAbs_mul, ← Int.natAbs_mul, e]
  have d1 : q.natAbs ∣ q'.natAbs := by
    have : q.natAbs ∣ p.natAbs * q'.natAbs := by rw [e2]; exact Nat.dvd_mul_left ..
    exact (Nat.Coprime.symm h : Nat.Coprime q.natAbs p.natAbs).dvd_of_dvd_mul_left this
  have d2 : q'.natAbs ∣ q.natAbs := by
    have : q'.natAbs ∣ p'.natAbs * q.natAbs := by rw [← e2]; exact Nat.dvd_mul_left ..
    exact (Nat.Coprime.symm h' : Nat.Coprime q'.natAbs p'.natAbs).dvd_of_dvd_mul_left this
  have e3 : q.natAbs = q'.natAbs := Nat.dvd_antisymm d1 d2
  have e4 : q = q' := by omega
  subst e4
  exact ⟨Int.eq_of_mul_eq_mul_right (by omega) e, rfl⟩
theorem low_of_cop {p q : Int} (h : Cop p q) (hq : 0 < q) : lowN p q = p ∧ lowD p q = q := by
  have e : gI p q = 1 := by unfold gI; rw [h]; rfl
  unfold lowN lowD
  rw [e, Int.ediv_one, Int.ediv_one]
  exact ⟨rfl, rfl⟩
theorem low_mul {p q c : Int} (hq : 0 < q) (hc : 0 < c) : lowN (p * c) (q * c) = lowN p q ∧ lowD (p * c) (q * c) = lowD p q := by
  have hqc : 0 < q * c := Int.mul_pos hq hc
  refine cop_uniq (low_cop (by omega)) (low_cop (by omega)) (lowD_pos hqc) (lowD_pos hq) ?_
  have h1 : lowN (p * c) (q * c) * (q * c) = (p * c) * lowD (p * c) (q * c) := low_cross
  have h2 : lowN p q * q = p * lowD p q := low_cross
  -- cancel q * c
  refine Int.eq_of_mul_eq_mul_right (a := q * c) (by omega) ?_
  calc lowN (p * c) (q * c) * lowD p q * (q * c) = (lowN (p * c) (q * c) * (q * c)) * lowD p q := by rw [Int.mul_assoc, Int.mul_comm (lowD p q), ← Int.mul_assoc]
    _ = (p * c * lowD (p * c) (q * c)) * lowD p q := by rw [h1]
    _ = (p * lowD p q) * (c * lowD (p * c) (q * c)) := by
      rw [Int.mul_assoc p, Int.mul_assoc p, Int.mul_assoc p, Int.mul_comm (lowD p q)]
    _ = (lowN p q * q) * (c * lowD (p * c) (q * c)) := by rw [h2]
    _ = lowN p q * lowD (p * c) (q * c) * (q * c) := by
      rw [Int.mul_assoc, Int.mul_assoc, ← Int.mul_assoc q c, Int.mul_comm (q * c)]
theorem low_one (p : Int) : lowN p 1 = p ∧ lowD p 1 = 1 := low_of_cop (by unfold Cop; simp) (by decide)
theorem low_neg (p q : Int) : lowN (-p) q = -lowN p q ∧ lowD (-p) q = lowD p q := by
  have e : gI (-p) q = gI p q := by unfold gI; rw [Int.natAbs_neg]
  unfold lowN lowD
  rw [e]
  exact ⟨Int.neg_ediv_of_dvd (gI_dvd_l p q), rfl⟩
theorem lowN_le (p q : Int) (h : q ≠ 0) : (lowN p q).natAbs ≤ p.natAbs := by
  have e1 : (gI p q).natAbs * (lowN p q).natAbs = p.natAbs := by rw [← Int.natAbs_mul, low_l]
  have h1 := gI_pos (p := p) (q := q) h
  rw [← e1]
  exact Nat.le_mul_of_pos_left _ (by omega)
theorem lowD_le (p q : Int) (h : q ≠ 0) : (lowD p q).natAbs ≤ q.natAbs := by
  have e1 : (gI p q).natAbs * (lowD p q).natAbs = q.natAbs := by rw [← Int.natAbs_mul, low_r]
  have h1 := gI_pos (p := p) (q := q) h
  rw [← e1]
  exact Nat.le_mul_of_pos_left _ (by omega)
/-- the fraction top/bottom, bottom of either sign -/
def frN (p q : Int) : Int := if q < 0 then lowN (-p) (-q) else lowN p q
def frD (p q : Int) : Int := if q < 0 then lowD (-p) (-q) else lowD p q
theorem gI_neg (p q : Int) : gI (-p) (-q) = gI p q := by unfold gI; rw [Int.natAbs_neg, Int.natAbs_neg]
theorem frD_pos {p q : Int} (h : q ≠ 0) : 0 < frD p q := by
  unfold frD
  split
  · exact lowD_pos (by omega)
  · exact lowD_pos (by omega)
theorem fr_cop {p q : Int} (h : q ≠ 0) : Cop (frN p q) (frD p q) := by
  unfold frN frD
  split
  · exact low_cop (by omega)
  · exact low_cop h
/-! ### sizes -/
theorem nat_mul_lt {a b m n : Nat} (h1 : a < 2 ^ m) (h2 : b < 2 ^ n) : a * b < 2 ^ (m + n) := by
  rw [Nat.pow_add]
  exact Nat.mul_lt_mul'' h1 h2
theorem int_mul_lt {a b : Int} {m n : Nat} (h1 : a.natAbs < 2 ^ m) (h2 : b.natAbs < 2 ^ n) : (a * b).natAbs < 2 ^ (m + n) := by
  rw [Int.natAbs_mul]
  exact nat_mul_lt h1 h2
theorem pow_mono {m n : Nat} {a : Nat} (h : a < 2 ^ m) (l : m ≤ n) : a < 2 ^ n := Nat.lt_of_lt_of_le h (Nat.pow_le_pow_right (by decide) l)
end Md

set_option Elab.async false
set_option linter.all false
set_option maxRecDepth 100000
set_option maxHeartbeats 4000000
namespace Md
open PySem PySem.Spec PyProof.Rows PySem.Calls L2
local macro_rules | `(tactic| walk_at "v") => `(tactic| refine ⟨_, rfl, ?_⟩)
local macro_rules | `(tactic| walk_at "ii") => `(tactic| refine ⟨_, _, rfl, rfl, ?_⟩)
local macro_rules | `(tactic| walk_at "ixL") => `(tactic| refine Or.inl ⟨_, _, _, _, rfl, rfl, SqL.of (by assumption), rfl, ?_⟩)
local macro_rules | `(tactic| walk_at "ixT") => `(tactic| refine Or.inr (Or.inl ⟨_, _, _, _, rfl, rfl, SqT.of (by assumption), rfl, ?_⟩))

/-! ### types of values -/
def isIntV : V → Bool
  | .int _ => true
  | _ => false
def isBoolV : V → Bool
  | .bl _ => true
  | _ => false
theorem isi_of {K : PySem.W.Frag} {H : Hp} {x : V} {T C : String} {b : Bool} {Q : VK} (ty : TyX K H x (.type T)) (h : kitB T C = some b) (q : Q (.bl b) H) : rIsi K [x, .ty C] H Q := ⟨x, .ty C, _, _, b, rfl, .ty C, ty, kit_ty h, q⟩
theorem kit_int {K : PySem.W.Frag} {H : Hp} {x : V} {T : String} (ty : TyX K H x (.type T)) : kitB T "int" = some (isIntV x || isBoolV x) ∧ kitB T "bool" = some (isBoolV x) := by
  cases ty with
  | base b => cases b <;> (constructor <;> (simp only [isIntV, isBoolV, Bool.or_false, Bool.or_true, Bool.false_or, Bool.true_or]; decide +kernel))
  | _ => constructor <;> (simp only [isIntV, isBoolV, Bool.or_false, Bool.or_true, Bool.false_or, Bool.true_or]; decide +kernel)
theorem ty_int {K : PySem.W.Frag} {H : Hp} {i : Int} : TyX K H (.int i) (.type "int") := .base (.int i)
theorem ty_tup {K : PySem.W.Frag} {H : Hp} {a : Addr} {xs : List V} (h : H a = some (.tup xs)) : TyX K H (.ref a) (.type "tuple") := .base (.tup h)

/-! ### an error class of one field -/
def spXi (C : Addr) (f : Str) : Sp := fun vs H Q _ => ∃ (a : Addr) (x : V), vs = [.ref a, x] ∧ H a = some (exo a C none) ∧ ∀ d, H d = none → d ≠ a → Q .non (upd (upd H d (exd d [(f, x)])) a (exo a C (some d)))
theorem len_xi {C : Addr} {f : Str} {vs : List V} {H : Hp} {Q : VK} {E : XK} (h : spXi C f vs H Q E) : vs.length = 2 := by
  obtain ⟨a, x, rfl, _⟩ := h
  rfl
def t_xi (K : PySem.W.Frag) (f : Str) : TS := tOst K f (tVar 0) (tVar 1)
theorem pure_xi {K : PySem.W.Frag} {C : Addr} {f n : Str} (T : OexC K C) (hn : PySem.W.findIn K (.ref C) f = some none) {vs : List V} {H : Hp} {Q : VK} {E : XK} (h : spXi C f vs H Q E) :
    t_xi K f { nx := fun _ H' => Q .non H', rt := Q } (start ["self", n] vs) H := by
  obtain ⟨a, x, rfl, ha, q⟩ := h
  walk_at "v"; walk_at "v"
  exact ⟨a, C, rfl, T, hn, .inl ⟨ha, fun dx h1 h2 => q dx h1 h2⟩⟩
/-- such an error is made -/
theorem mk_xi {C : Addr} {f : Str} {x : V} {H : Hp} {Q : XK} (q : ∀ d H', Same H H' → H' d = some (.xd [(f, x)]) → Q (.ref C) (some d) H') :
    [x].length ≤ 1000 ∧ ∀ a, H a = none → spXi C f (.ref a :: ([x] ++ [])) (upd H a (exo a C none)) (fun v H2 => v = .non ∧ ∃ (d : Addr) (fs : List (Str × V)), H2 a = some (exo a C (some d)) ∧ H2 d = some (exd d fs) ∧ H d = none ∧ Q (.ref C) (some d) (upd (del H2 a) d (.xd fs))) (fun _ _ _ => False) := by
  refine ⟨by show 1 ≤ 1000; decide, fun a ha => ⟨a, x, rfl, upd_same, fun d hd hda => ⟨rfl, d, [(f, x)], upd_same, ?_, ?_, ?_⟩⟩⟩
  · rw [upd_ne hda, upd_same]
  · rw [upd_ne hda] at hd; exact hd
  · rw [upd_ne hda] at hd
    refine q d _ (fun b o e => ?_) upd_same
    have nb : b ≠ d := ne_of_none e hd
    have na : b ≠ a := ne_of_none e ha
    rw [upd_ne nb, del_ne na, upd_ne na, upd_ne nb, upd_ne na]
    exact e

/-! ### numbers in the heap -/
def NumAt (H : Hp) (x : V) (p q : Int) : Prop := (x = .int p ∧ q = 1) ∨ ∃ a, x = .ref a ∧ H a = some (.tup [.int p, .int q]) ∧ 2 ≤ q ∧ Cop p q
def PairAt (H : Hp) (x : V) (p q : Int) : Prop := ∃ a, x = .ref a ∧ H a = some (.tup [.int p, .int q])
theorem NumAt.same {H H' : Hp} {x : V} {p q : Int} (h : NumAt H x p q) (s : Same H H') : NumAt H' x p q := by
  rcases h with h | ⟨a, e, ha, h⟩
  · exact .inl h
  · exact .inr ⟨a, e, s _ _ ha, h⟩
theorem NumAt.xb {H H' : Hp} {x : V} {p q : Int} {b : Addr} {n : Nat} (h : NumAt H x p q) (hb : Bag n H b) (s : Xb b H H') : NumAt H' x p q := by
  rcases h with h | ⟨a, e, ha, h⟩
  · exact .inl h
  · exact .inr ⟨a, e, s.tupB hb ha, h⟩
theorem NumAt.pos {H : Hp} {x : V} {p q : Int} (h : NumAt H x p q) : 0 < q := by
  rcases h with ⟨_, h⟩ | ⟨a, e, ha, h, _⟩ <;> omega
theorem NumAt.cop {H : Hp} {x : V} {p q : Int} (h : NumAt H x p q) : Cop p q := by
  rcases h with ⟨_, h⟩ | ⟨a, e, ha, h, c⟩
  · subst h; unfold Cop; simp
  · exact c
theorem NumAt.ty {K : PySem.W.Frag} {H : Hp} {x : V} {p q : Int} (h : NumAt H x p q) : ∃ T, TyX K H x (.type T) := by
  rcases h with ⟨rfl, h⟩ | ⟨a, rfl, ha, h, _⟩
  · exact ⟨_, ty_int⟩
  · exact ⟨_, ty_tup ha⟩
theorem PairAt.same {H H' : Hp} {x : V} {p q : Int} (h : PairAt H x p q) (s : Same H H') : PairAt H' x p q := by
  obtain ⟨a, e, ha⟩ := h
  exact ⟨a, e, s _ _ ha⟩
theorem PairAt.xb {H H' : Hp} {x : V} {p q : Int} {b : Addr} {n : Nat} (h : PairAt H x p q) (hb : Bag n H b) (s : Xb b H H') : PairAt H' x p q := by
  obtain ⟨a, e, ha⟩ := h
  exact ⟨a, e, s.tupB hb ha⟩
theorem NumAt.int (H : Hp) (p : Int) : NumAt H (.int p) p 1 := .inl ⟨rfl, rfl⟩
/-- a fraction in lowest terms, laid as a number -/
theorem NumAt.eqv {H : Hp} {x : V} {p q p' q' : Int} (h : NumAt H x p q) (e1 : p = p') (e2 : q = q') : NumAt H x p' q' := by subst e1 e2; exact h

/-! ### is_whole, _law_is_int -/
def t_is_whole (K : PySem.W.Frag) (A : Ads) (E : XK) : TS :=
    (tRet (tAndV (tCB (rIsi K) (tCons (tVar 0) (tCons (tC (.ty "int")) tNil))) (tNotV (tCB (rIsi K) (tCons (tVar 0) (tCons (tC (.ty "bool")) tNil))))))
def n_is_whole : List Str := ["thing"]
def sp_is_whole (K : PySem.W.Frag) (A : Ads) : Sp := fun vs H Q _ => ∃ (x : V) (T : String), vs = [x] ∧ TyX K H x (.type T) ∧ Q (.bl (isIntV x)) H
theorem len_is_whole {K : PySem.W.Frag} {A : Ads} {vs : List V} {H : Hp} {Q : VK} {E : XK} (h : sp_is_whole K A vs H Q E) : vs.length = 1 := by
  obtain ⟨x, T, rfl, _⟩ := h
  rfl
theorem pure_is_whole {K : PySem.W.Frag} {A : Ads} {vs : List V} {H : Hp} {Q : VK} {E : XK} (h : sp_is_whole K A vs H Q E) : t_is_whole K A E { nx := fun _ H' => Q .non H', rt := Q } (start n_is_whole vs) H := by
  obtain ⟨x, T, rfl, ty, q⟩ := h
  obtain ⟨e1, e2⟩ := kit_int ty
  walk_at "v"
  refine ⟨_, _, _, _, _, rfl, .ty _, ty, kit_ty e1, ?_⟩
  refine ⟨_, rfl, ?_⟩
  refine iteB (fun h1 => ?_) (fun h1 => ?_)
  · walk_at "v"
    refine ⟨_, _, _, _, _, rfl, .ty _, ty, kit_ty e2, ?_⟩
    refine ⟨_, rfl, ?_⟩
    cases x <;> first | exact q | (simp [isIntV, isBoolV] at h1)
  · cases x <;> first | exact q | (simp [isIntV, isBoolV] at h1)
def t__law_is_int (K : PySem.W.Frag) (A : Ads) (E : XK) : TS :=
    (tRet (tAndV (tCB (rIsi K) (tCons (tVar 0) (tCons (tC (.ty "int")) tNil))) (tNotV (tCB (rIsi K) (tCons (tVar 0) (tCons (tC (.ty "bool")) tNil))))))
def n__law_is_int : List Str := ["_law_thing"]
def sp__law_is_int (K : PySem.W.Frag) (A : Ads) : Sp := sp_is_whole K A
theorem len__law_is_int {K : PySem.W.Frag} {A : Ads} {vs : List V} {H : Hp} {Q : VK} {E : XK} (h : sp__law_is_int K A vs H Q E) : vs.length = 1 := len_is_whole h
theorem pure__law_is_int {K : PySem.W.Frag} {A : Ads} {vs : List V} {H : Hp} {Q : VK} {E : XK} (h : sp__law_is_int K A vs H Q E) : t__law_is_int K A E { nx := fun _ H' => Q .non H', rt := Q } (start n__law_is_int vs) H := pure_is_whole h

/-! ### number -/
def sp_BadNumber___init__ (K : PySem.W.Frag) (A : Ads) : Sp := spXi A.cBadNumber "thing"
def t_number (K : PySem.W.Frag) (A : Ads) (E : XK) : TS :=
    (tSeq (tIfS (tTest (tOp rEq (tVar 1) (tC (.int 0)))) (tRaise E (tMkO A.cBadNumber (sp_BadNumber___init__ K A) [] (tCons (tVar 1) tNil))) tNext)
    (tSeq (tAsg (tCB rGcd (tCons (tVar 0) (tCons (tVar 1) tNil))) (gName 2))
    (tSeq (tIfS (tTest (tOp rLt (tVar 1) (tC (.int 0)))) (tAsg (tUn rNeg (tVar 2)) (gName 2)) tNext)
    (tSeq (tIfS (tTest (tOp rEq (tVar 1) (tVar 2))) (tRet (tOp rFdvG (tVar 0) (tVar 2))) tNext)
    (tRet (tTup (tCons (tOp rFdvG (tVar 0) (tVar 2)) (tCons (tOp rFdvG (tVar 1) (tVar 2)) tNil))))))))
def n_number : List Str := ["top", "bottom", "shared"]
def sp_number (K : PySem.W.Frag) (A : Ads) : Sp := fun vs H Q E => ∃ p q : Int, vs = [.int p, .int q] ∧ q.natAbs < 2 ^ 9000 ∧ (q ≠ 0 → ∀ x H', Same H H' → NumAt H' x (frN p q) (frD p q) → Q x H') ∧
  (q = 0 → ∀ d H', Same H H' → H' d = some (.xd [("thing", .int 0)]) → E (.ref A.cBadNumber) (some d) H')
theorem len_number {K : PySem.W.Frag} {A : Ads} {vs : List V} {H : Hp} {Q : VK} {E : XK} (h : sp_number K A vs H Q E) : vs.length = 2 := by
  obtain ⟨p, q, rfl, _⟩ := h
  rfl
theorem fdiv_exact {p s k : Int} (hs : s ≠ 0) (e : p = s * k) : p.fdiv s = k := by rw [e]; exact Int.mul_fdiv_cancel_left k hs
theorem gI_size {p q : Int} (h : q ≠ 0) : (gI p q).natAbs ≤ q.natAbs := by
  have e1 : (gI p q).natAbs * (lowD p q).natAbs = q.natAbs := by rw [← Int.natAbs_mul, low_r]
  have : 0 < (lowD p q).natAbs := by
    rcases Nat.eq_zero_or_pos (lowD p q).natAbs with z | z
    · rw [z] at e1; omega
    · exact z
  rw [← e1]
  exact Nat.le_mul_of_pos_right _ this
theorem pure_number {K : PySem.W.Frag} {A : Ads} {vs : List V} {H : Hp} {Q : VK} {E : XK} (h : sp_number K A vs H Q E) : t_number K A E { nx := fun _ H' => Q .non H', rt := Q } (start n_number vs) H := by
  obtain ⟨p, q, rfl, hz, kQ, kE⟩ := h
  walk_at "v"; refine ⟨rfl, ?_⟩; walk_at "v"
  refine iteD (fun h0 => ?_) (fun h0 => ?_)
  · have e0 : q = 0 := V.int.inj h0
    subst e0
    walk_at "v"
    exact mk_xi fun d H' s e => kE rfl d H' s e
  have hq : q ≠ 0 := fun z => h0 (by rw [z])
  have hg := gI_pos (p := p) (q := q) hq
  have hs := gI_size (p := p) hq
  walk_at "v"; walk_at "v"; refine ⟨_, _, rfl, ?_⟩
  have main : ∀ s : Int, (s = gI p q ∧ 0 < q ∨ s = -gI p q ∧ q < 0) → (tSeq (tIfS (tTest (tOp rEq (tVar 1) (tVar 2))) (tRet (tOp rFdvG (tVar 0) (tVar 2))) tNext) (tRet (tTup (tCons (tOp rFdvG (tVar 0) (tVar 2)) (tCons (tOp rFdvG (tVar 1) (tVar 2)) tNil)))))
      { nx := fun _ H' => Q .non H', rt := Q } [some (.int p), some (.int q), some (.int s)] H := by
    intro s hs2
    have s0 : s ≠ 0 := by omega
    have sz : s.natAbs.log2 < 9000 := pow_lt (Nat.lt_of_le_of_lt (by omega) hz) (by decide)
    obtain ⟨eN, eD⟩ : p.fdiv s = frN p q ∧ q.fdiv s = frD p q := by
      unfold frN frD
      rcases hs2 with ⟨e, h1⟩ | ⟨e, h1⟩
      · rw [if_neg (by omega), if_neg (by omega), e]
        exact ⟨fdiv_exact (by omega) (low_l p q).symm, fdiv_exact (by omega) (low_r p q).symm⟩
      · rw [if_pos h1, if_pos h1]
        have l1 := low_l (-p) (-q)
        have l2 := low_r (-p) (-q)
        rw [gI_neg] at l1 l2
        refine ⟨fdiv_exact s0 ?_, fdiv_exact s0 ?_⟩
        · rw [e, Int.neg_mul, l1, Int.neg_neg]
        · rw [e, Int.neg_mul, l2, Int.neg_neg]
    have hD := frD_pos (p := p) hq
    have hC := fr_cop (p := p) hq
    walk_at "v"; walk_at "v"; refine ⟨rfl, ?_⟩; walk_at "v"
    refine iteD (fun h1 => ?_) (fun h1 => ?_)
    · have e1 : q = s := V.int.inj h1
      walk_at "v"; walk_at "v"; refine ⟨_, _, rfl, rfl, ⟨s0, sz⟩, ?_⟩
      refine kQ hq _ _ (Same.refl H) (.inl ⟨congrArg V.int eN, ?_⟩)
      rw [← eD, ← e1]
      exact fdiv_exact hq (by omega)
    · walk_at "v"; walk_at "v"; refine ⟨_, _, rfl, rfl, ⟨s0, sz⟩, ?_⟩
      walk_at "v"; walk_at "v"; refine ⟨_, _, rfl, rfl, ⟨s0, sz⟩, ?_⟩
      refine ⟨by show 2 ≤ sizeLine; decide, fun a ha => ?_⟩
      refine kQ hq _ _ (Same.new ha) (.inr ⟨a, rfl, ?_, ?_, hC⟩)
      · exact upd_same.trans (by show some (HO.tup [V.int (p.fdiv s), V.int (q.fdiv s)]) = _; rw [eN, eD])
      · rcases Int.lt_or_le (frD p q) 2 with z | z
        · exfalso
          have z1 : frD p q = 1 := by omega
          apply h1
          have : q = s * frD p q := by
            rcases hs2 with ⟨e, h2⟩ | ⟨e, h2⟩
            · unfold frD; rw [if_neg (by omega), e, low_r]
            · unfold frD
              have l2 := low_r (-p) (-q)
              rw [gI_neg] at l2
              rw [if_pos h2, e, Int.neg_mul, l2, Int.neg_neg]
          rw [z1, Int.mul_one] at this
          rw [this]
        · exact z
  walk_at "v"; walk_at "ii"; walk_at "v"
  refine iteD (fun h1 => ?_) (fun h1 => ?_)
  · walk_at "v"; walk_at "v"
    exact main _ (.inr ⟨rfl, h1⟩)
  · exact main _ (.inl ⟨rfl, by omega⟩)
end Md

set_option Elab.async false
set_option linter.all false
set_option maxRecDepth 100000
set_option maxHeartbeats 4000000
namespace Md
open PySem PySem.Spec PyProof.Rows PySem.Calls L2
local macro_rules | `(tactic| walk_at "v") => `(tactic| refine ⟨_, rfl, ?_⟩)
local macro_rules | `(tactic| walk_at "ii") => `(tactic| refine ⟨_, _, rfl, rfl, ?_⟩)
local macro_rules | `(tactic| walk_at "ixL") => `(tactic| refine Or.inl ⟨_, _, _, _, rfl, rfl, SqL.of (by assumption), rfl, ?_⟩)
local macro_rules | `(tactic| walk_at "ixT") => `(tactic| refine Or.inr (Or.inl ⟨_, _, _, _, rfl, rfl, SqT.of (by assumption), rfl, ?_⟩))

/-! ### _over -/
def t__over (K : PySem.W.Frag) (A : Ads) (E : XK) : TS :=
    (tSeq (tIfS (tB (tCall (sp_is_whole K A) [] E0 (tCons (tVar 0) tNil))) (tRet (tTup (tCons (tVar 0) (tCons (tC (.int 1)) tNil)))) tNext)
    (tRet (tVar 0)))
def n__over : List Str := ["value"]
def sp__over (K : PySem.W.Frag) (A : Ads) : Sp := fun vs H Q _ => ∃ (x : V) (p q : Int), vs = [x] ∧ NumAt H x p q ∧ ∀ y H', Same H H' → PairAt H' y p q → Q y H'
theorem len__over {K : PySem.W.Frag} {A : Ads} {vs : List V} {H : Hp} {Q : VK} {E : XK} (h : sp__over K A vs H Q E) : vs.length = 1 := by
  obtain ⟨x, p, q, rfl, _⟩ := h
  rfl
theorem pure__over {K : PySem.W.Frag} {A : Ads} {vs : List V} {H : Hp} {Q : VK} {E : XK} (h : sp__over K A vs H Q E) : t__over K A E { nx := fun _ H' => Q .non H', rt := Q } (start n__over vs) H := by
  obtain ⟨x, p, q, rfl, hn, k⟩ := h
  rcases hn with ⟨rfl, rfl⟩ | ⟨a, rfl, ha, h2, hc⟩
  · walk_at "v"
    refine ⟨_, _, rfl, ty_int, ⟨_, rfl, ?_⟩⟩
    show (if true = true then _ else _)
    refine iteT ?_
    walk_at "v"
    refine ⟨by show 2 ≤ sizeLine; decide, fun t ht => ?_⟩
    exact k _ _ (Same.new ht) ⟨t, rfl, upd_same⟩
  · walk_at "v"
    refine ⟨_, _, rfl, ty_tup ha, ⟨_, rfl, ?_⟩⟩
    refine iteF ?_
    walk_at "v"
    exact k _ _ (Same.refl H) ⟨a, rfl, ha⟩
/-! ### compare -/
def cmpI (a b : Int) : Int := if a < b then -1 else if b < a then 1 else 0
def t_compare (K : PySem.W.Frag) (A : Ads) (E : XK) : TS :=
    (tSeq (tAsg (tCall (sp__over K A) [] E0 (tCons (tVar 0) tNil)) (gTup K 2 (gCons (gName 4) (gCons (gName 5) gNil))))
    (tSeq (tAsg (tCall (sp__over K A) [] E0 (tCons (tVar 1) tNil)) (gTup K 2 (gCons (gName 6) (gCons (gName 7) gNil))))
    (tSeq (tAsg (tOp rMulW (tVar 4) (tVar 7)) (gName 2))
    (tSeq (tAsg (tOp rMulW (tVar 6) (tVar 5)) (gName 3))
    (tSeq (tIfS (tTest (tOp rLt (tVar 2) (tVar 3))) (tRet (tUn rNeg (tC (.int 1)))) tNext)
    (tRet (tIf (tTest (tOp rGt (tVar 2) (tVar 3))) (tC (.int 1)) (tC (.int 0)))))))))
def n_compare : List Str := ["one", "other", "left", "right", "top", "bottom", "other_top", "other_bottom"]
def sp_compare (K : PySem.W.Frag) (A : Ads) : Sp := fun vs H Q _ => ∃ (x y : V) (p q p' q' : Int), vs = [x, y] ∧ NumAt H x p q ∧ NumAt H y p' q' ∧ (p.natAbs < 2 ^ 9000 ∧ q.natAbs < 2 ^ 9000 ∧ p'.natAbs < 2 ^ 9000 ∧ q'.natAbs < 2 ^ 9000) ∧
  ∀ H', Same H H' → Q (.int (cmpI (p * q') (p' * q))) H'
theorem len_compare {K : PySem.W.Frag} {A : Ads} {vs : List V} {H : Hp} {Q : VK} {E : XK} (h : sp_compare K A vs H Q E) : vs.length = 2 := by
  obtain ⟨x, y, p, q, p', q', rfl, _⟩ := h
  rfl
theorem mulW {i j : Int} (h1 : i.natAbs < 2 ^ 9001) (h2 : j.natAbs < 2 ^ 9001) : CMulW i j := wide_mul h1 h2 (by decide) (by decide) (by decide)
theorem mulW0 {i j : Int} (h1 : i.natAbs < 2 ^ 9000) (h2 : j.natAbs < 2 ^ 9000) : CMulW i j := mulW (pow_mono h1 (by decide)) (pow_mono h2 (by decide))
theorem pure_compare {K : PySem.W.Frag} {A : Ads} {vs : List V} {H : Hp} {Q : VK} {E : XK} (h : sp_compare K A vs H Q E) : t_compare K A E { nx := fun _ H' => Q .non H', rt := Q } (start n_compare vs) H := by
  obtain ⟨x, y, p, q, p', q', rfl, h1, h2, ⟨z1, z2, z3, z4⟩, k⟩ := h
  walk_at "v"
  refine ⟨_, _, _, rfl, h1, fun u H1 s1 hu => ?_⟩
  obtain ⟨a, rfl, ha⟩ := hu
  refine ⟨a, _, rfl, SqT.of ha, rfl, _, _, rfl, _, _, rfl, rfl, ?_⟩
  walk_at "v"
  refine ⟨_, _, _, rfl, h2.same s1, fun u2 H2 s2 hu2 => ?_⟩
  obtain ⟨a2, rfl, ha2⟩ := hu2
  refine ⟨a2, _, rfl, SqT.of ha2, rfl, _, _, rfl, _, _, rfl, rfl, ?_⟩
  have s3 := Same.trans s1 s2
  walk_at "v"; walk_at "v"; refine ⟨_, _, rfl, rfl, mulW0 z1 z4, ?_⟩
  walk_at "v"; walk_at "v"; refine ⟨_, _, rfl, rfl, mulW0 z3 z2, ?_⟩
  have kk := k H2 s3
  unfold cmpI at kk
  walk_at "v"; walk_at "v"; walk_at "ii"; walk_at "v"
  refine iteD (fun h0 => ?_) (fun h0 => ?_)
  · refine ⟨_, rfl, ?_⟩
    rw [if_pos h0] at kk
    exact kk
  · rw [if_neg h0] at kk
    walk_at "v"; walk_at "v"; walk_at "ii"; walk_at "v"
    refine iteD (fun h3 => ?_) (fun h3 => ?_)
    · rw [if_pos h3] at kk
      exact kk
    · rw [if_neg h3] at kk
      exact kk
/-! ### _negative -/
def t__negative (K : PySem.W.Frag) (A : Ads) (E : XK) : TS :=
    (tRet (tTup (tCons (tUn rNeg (tOp (rIx K) (tVar 0) (tC (.int 0)))) (tCons (tOp (rIx K) (tVar 0) (tC (.int 1))) tNil))))
def n__negative : List Str := ["over"]
def sp__negative (K : PySem.W.Frag) (A : Ads) : Sp := fun vs H Q _ => ∃ (x : V) (p q : Int), vs = [x] ∧ PairAt H x p q ∧ ∀ y H', Same H H' → PairAt H' y (-p) q → Q y H'
theorem len__negative {K : PySem.W.Frag} {A : Ads} {vs : List V} {H : Hp} {Q : VK} {E : XK} (h : sp__negative K A vs H Q E) : vs.length = 1 := by
  obtain ⟨x, p, q, rfl, _⟩ := h
  rfl
theorem pure__negative {K : PySem.W.Frag} {A : Ads} {vs : List V} {H : Hp} {Q : VK} {E : XK} (h : sp__negative K A vs H Q E) : t__negative K A E { nx := fun _ H' => Q .non H', rt := Q } (start n__negative vs) H := by
  obtain ⟨x, p, q, rfl, ⟨a, rfl, ha⟩, k⟩ := h
  walk_at "v"; walk_at "ixT"; walk_at "v"; walk_at "v"; walk_at "ixT"
  refine ⟨by show 2 ≤ sizeLine; decide, fun t ht => ?_⟩
  exact k _ _ (Same.new ht) ⟨t, rfl, upd_same⟩

/-! ### _law_bag -/
def t__law_bag (K : PySem.W.Frag) (A : Ads) (E : XK) : TS :=
    (tSeq (tAsg (tIf (tTest (tOp rLt (tVar 1) (tCB (rLen K) (tCons (tVar 0) tNil)))) (tOp (rIx K) (tVar 0) (tVar 1)) (tC (.int 0))) (gName 2))
    (tSeq (tAsg (tIf (tTest (tOp rGe (tCB rAbs (tCons (tVar 2) tNil)) (tOp rPow (tC (.int 10)) (tC (.int 18))))) (tCB rAbs (tCons (tVar 2) tNil)) (tC (.int 0))) (gName 3))
    (tRet (tLst (tCons (tVar 3) (tCons (tOp rAdd (tOp rAdd (tOp rMulW (tOp rMod (tCB rInt1 (tCons (tVar 2) tNil)) (tC (.int 2305843009213693951))) (tC (.int 7))) (tOp rMulW (tC (.int 9176)) (tVar 1))) (tC (.int 7001))) (tCons (tC (.int 0)) tNil)))))))
def n__law_bag : List Str := ["_law_script", "_law_at", "_law_cell", "_law_large"]
def sp__law_bag (K : PySem.W.Frag) (A : Ads) : Sp := fun vs H Q _ => ∃ (s : Addr) (ns : List Int) (at_ : Int), vs = [.ref s, .int at_] ∧ SqL K H s (ns.map V.int) ∧ ns.length ≤ 63 ∧ 0 ≤ at_ ∧ at_ ≤ 62 ∧ ∀ b H', H b = none → Same H H' → Bag 549755813888 H' b → Q (.ref b) H'
theorem len__law_bag {K : PySem.W.Frag} {A : Ads} {vs : List V} {H : Hp} {Q : VK} {E : XK} (h : sp__law_bag K A vs H Q E) : vs.length = 2 := by
  obtain ⟨x, p, q, rfl, _⟩ := h
  rfl
theorem atI_map {ns : List Int} {i : Int} (h0 : 0 ≤ i) (h1 : i < ns.length) : ∃ c, atI (ns.map V.int) i = some (.int c) := by
  have h2 : i.toNat < ns.length := by omega
  refine ⟨ns[i.toNat], ?_⟩
  unfold atI ixN
  rw [if_pos h0, List.length_map, if_pos h1]
  show (ns.map V.int)[i.toNat]? = _
  rw [List.getElem?_map, List.getElem?_eq_getElem h2]
  rfl
theorem pure__law_bag {K : PySem.W.Frag} {A : Ads} {vs : List V} {H : Hp} {Q : VK} {E : XK} (h : sp__law_bag K A vs H Q E) : t__law_bag K A E { nx := fun _ H' => Q .non H', rt := Q } (start n__law_bag vs) H := by
  obtain ⟨s, ns, i, rfl, hs, hn, h0, h1, k⟩ := h
  have main : ∀ c : Int, (tSeq (tAsg (tIf (tTest (tOp rGe (tCB rAbs (tCons (tVar 2) tNil)) (tOp rPow (tC (.int 10)) (tC (.int 18))))) (tCB rAbs (tCons (tVar 2) tNil)) (tC (.int 0))) (gName 3))
    (tRet (tLst (tCons (tVar 3) (tCons (tOp rAdd (tOp rAdd (tOp rMulW (tOp rMod (tCB rInt1 (tCons (tVar 2) tNil)) (tC (.int 2305843009213693951))) (tC (.int 7))) (tOp rMulW (tC (.int 9176)) (tVar 1))) (tC (.int 7001))) (tCons (tC (.int 0)) tNil))))))
     { nx := fun _ H' => Q .non H', rt := Q } [some (.ref s), some (.int i), some (.int c), none] H := by
    intro c
    have fin : ∀ L : Int, 0 ≤ L → (tRet (tLst (tCons (tVar 3) (tCons (tOp rAdd (tOp rAdd (tOp rMulW (tOp rMod (tCB rInt1 (tCons (tVar 2) tNil)) (tC (.int 2305843009213693951))) (tC (.int 7))) (tOp rMulW (tC (.int 9176)) (tVar 1))) (tC (.int 7001))) (tCons (tC (.int 0)) tNil)))))
     { nx := fun _ H' => Q .non H', rt := Q } [some (.ref s), some (.int i), some (.int c), some (.int L)] H := by
      intro L hL
      have b1 := Int.emod_nonneg c (by decide : (2305843009213693951 : Int) ≠ 0)
      have b2 := Int.emod_lt_of_pos c (by decide : (0 : Int) < 2305843009213693951)
      walk_at "v"; walk_at "v"; refine Or.inl ⟨_, rfl, ?_⟩; refine ⟨_, _, rfl, rfl, (by decide : (0 : Int) < 2305843009213693951), ?_⟩
      refine ⟨_, _, rfl, rfl, CMulW.small (by omega) (by decide) (by decide), ?_⟩
      walk_at "v"; refine ⟨_, _, rfl, rfl, CMulW.small (by decide) (by omega) (by omega), ?_⟩
      walk_at "ii"; walk_at "ii"
      refine ⟨by show 3 ≤ sizeLine; decide, fun t ht => ?_⟩
      refine k t _ ht (Same.new ht) ⟨L, _, 0, upd_same, hL, by omega, by omega, by omega, by omega⟩
    walk_at "v"; walk_at "v"; refine ⟨_, _, rfl, rfl, ⟨by decide, by decide, by decide⟩, ?_⟩; walk_at "ii"; walk_at "v"
    refine iteD (fun h2 => ?_) (fun h2 => ?_)
    · walk_at "v"; walk_at "v"
      refine fin _ ?_
      split <;> omega
    · exact fin 0 (by omega)
  walk_at "v"; walk_at "v"; refine ⟨_, _, rfl, Or.inl ⟨_, hs, rfl⟩, ?_⟩; walk_at "ii"; walk_at "v"
  refine iteD (fun h2 => ?_) (fun h2 => ?_)
  · rw [List.length_map] at h2
    obtain ⟨c, hc⟩ := atI_map h0 h2
    walk_at "v"; walk_at "v"
    refine Or.inl ⟨_, _, _, _, rfl, rfl, hs, hc, ?_⟩
    exact main c
  · exact main 0

/-! ### _law_value -/
def t__law_value (K : PySem.W.Frag) (A : Ads) (E : XK) : TS :=
    (tSeq (tPar 2 3 (tCons (tCB rAbs (tCons (tVar 0) tNil)) (tCons (tVar 1) tNil)))
    (tSeq (tWhile (tTest (tOp rGt (tVar 2) (tC (.int 0)))) (tPar 2 3 (tCons (tOp rMod (tCB rInt1 (tCons (tVar 3) tNil)) (tVar 2)) (tCons (tVar 2) tNil))))
    (tRet (tIf (tTest (tOp rEq (tVar 1) (tVar 3))) (tOp rFdvW (tVar 0) (tVar 3)) (tTup (tCons (tOp rFdvW (tVar 0) (tVar 3)) (tCons (tOp rFdvW (tVar 1) (tVar 3)) tNil)))))))
def n__law_value : List Str := ["_law_p", "_law_q", "_law_low", "_law_high"]
def sp__law_value (K : PySem.W.Frag) (A : Ads) : Sp := fun vs H Q _ => ∃ p q : Int, vs = [.int p, .int q] ∧ 0 < q ∧ q.natAbs < 2 ^ 9000 ∧ ∀ x H', Same H H' → NumAt H' x (lowN p q) (lowD p q) → Q x H'
theorem len__law_value {K : PySem.W.Frag} {A : Ads} {vs : List V} {H : Hp} {Q : VK} {E : XK} (h : sp__law_value K A vs H Q E) : vs.length = 2 := by
  obtain ⟨p, q, rfl, _⟩ := h
  rfl
theorem gI_step {l h : Int} (hl : 0 < l) (hh : 0 ≤ h) : gI (h % l) l = gI l h := by
  unfold gI
  obtain ⟨m, rfl⟩ := Int.eq_ofNat_of_zero_le (Int.le_of_lt hl)
  obtain ⟨n, rfl⟩ := Int.eq_ofNat_of_zero_le hh
  have e : ((n : Int) % (m : Int)).natAbs = n % m := by rw [← Int.natCast_emod]; rfl
  rw [e]
  show ((Nat.gcd (n % m) m : Nat) : Int) = ((Nat.gcd m n : Nat) : Int)
  rw [Nat.gcd_rec m n]
theorem pure__law_value {K : PySem.W.Frag} {A : Ads} {vs : List V} {H : Hp} {Q : VK} {E : XK} (h : sp__law_value K A vs H Q E) : t__law_value K A E { nx := fun _ H' => Q .non H', rt := Q } (start n__law_value vs) H := by
  obtain ⟨p, q, rfl, hq, hz, k⟩ := h
  walk_at "v"; walk_at "v"; walk_at "v"
  refine ⟨_, _, rfl, ?_⟩
  refine ⟨fun m σ H' => H' = H ∧ ∃ l h : Int, σ = [some (.int p), some (.int q), some (.int l), some (.int h)] ∧ 0 ≤ l ∧ 0 < h ∧ gI l h = gI p q ∧ m = l.toNat, ⟨_, rfl, _, _, rfl, ?_, hq, ?_, rfl⟩, ?_⟩
  · split <;> omega
  · show gI (if p < 0 then -p else p) q = gI p q
    unfold gI
    split
    · rw [Int.natAbs_neg]
    · rfl
  · rintro m σ H' ⟨rfl, l, h, rfl, h0, h1, hg, rfl⟩
    walk_at "v"; walk_at "ii"; walk_at "v"
    refine iteD (fun h2 => ?_) (fun h2 => ?_)
    · refine ⟨_, fun σ' H' z => z, ?_⟩
      · walk_at "v"; refine Or.inl ⟨_, rfl, ?_⟩; walk_at "v"; refine ⟨_, _, rfl, rfl, h2, ?_⟩; walk_at "v"
        refine ⟨_, _, rfl, ?_⟩
        have b1 := Int.emod_nonneg h (by omega : l ≠ 0)
        have b2 := Int.emod_lt_of_pos h h2
        exact ⟨(h % l).toNat, by omega, rfl, h % l, l, rfl, b1, h2, by rw [gI_step h2 (by omega), hg], rfl⟩
    · have e0 : l = 0 := by omega
      subst e0
      have eh : h = gI p q := by
        rw [← hg]
        unfold gI
        show h = ((Nat.gcd 0 h.natAbs : Nat) : Int)
        rw [Nat.gcd_zero_left]
        omega
      have hs := gI_size (p := p) (q := q) (by omega)
      have hd : CDivW p h := ⟨h1, pow_lt (Nat.lt_of_le_of_lt (by omega) hz) (by decide)⟩
      have hD := lowD_pos (p := p) hq
      walk_at "v"; walk_at "v"; refine ⟨rfl, ?_⟩; walk_at "v"
      refine iteD (fun h3 => ?_) (fun h3 => ?_)
      · have e3 : q = h := V.int.inj h3
        walk_at "v"; walk_at "v"; refine ⟨_, _, rfl, rfl, hd, ?_⟩
        refine k _ _ (Same.refl _) (.inl ⟨by unfold lowN; rw [← eh], ?_⟩)
        unfold lowD
        rw [← eh, e3, Int.ediv_self (by omega)]
      · walk_at "v"; walk_at "v"; refine ⟨_, _, rfl, rfl, hd, ?_⟩
        walk_at "v"; walk_at "v"; refine ⟨_, _, rfl, rfl, hd, ?_⟩
        refine ⟨by show 2 ≤ sizeLine; decide, fun a ha => ?_⟩
        refine k _ _ (Same.new ha) (.inr ⟨a, rfl, ?_, ?_, low_cop (by omega)⟩)
        · refine upd_same.trans ?_
          show some (HO.tup [V.int (p / h), V.int (q / h)]) = _
          rw [eh]; rfl
        · rcases Int.lt_or_le (lowD p q) 2 with z | z
          · exfalso
            apply h3
            have e1 : lowD p q = 1 := by omega
            have e2 := low_r p q
            rw [e1, Int.mul_one] at e2
            rw [eh, e2]
          · exact z
end Md

set_option Elab.async false
set_option linter.all false
set_option maxRecDepth 100000
set_option maxHeartbeats 4000000
set_option exponentiation.threshold 20000
namespace Md
open PySem PySem.Spec PyProof.Rows PySem.Calls L2
local macro_rules | `(tactic| walk_at "v") => `(tactic| refine ⟨_, rfl, ?_⟩)
local macro_rules | `(tactic| walk_at "ii") => `(tactic| refine ⟨_, _, rfl, rfl, ?_⟩)
local macro_rules | `(tactic| walk_at "ixL") => `(tactic| refine Or.inl ⟨_, _, _, _, rfl, rfl, SqL.of (by assumption), rfl, ?_⟩)
local macro_rules | `(tactic| walk_at "ixT") => `(tactic| refine Or.inr (Or.inl ⟨_, _, _, _, rfl, rfl, SqT.of (by assumption), rfl, ?_⟩))

/-! ### _law_number -/
def t__law_number (K : PySem.W.Frag) (A : Ads) (E : XK) : TS :=
    (tSeq (tIfS (tTest (tOp rGt (tCall (sp__law_take K A) [] E0 (tCons (tVar 0) (tCons (tC (.int 3)) tNil))) (tC (.int 0)))) (tRet (tCall (sp__law_value K A) [] E0 (tCons (tOp rSub (tCall (sp__law_take K A) [] E0 (tCons (tVar 0) (tCons (tC (.int 11)) tNil))) (tC (.int 5))) (tCons (tOp rAdd (tC (.int 1)) (tCall (sp__law_take K A) [] E0 (tCons (tVar 0) (tCons (tC (.int 3)) tNil)))) tNil)))) tNext)
    (tRet (tCall (sp__law_value K A) [] E0 (tCons (tOp rSub (tCall (sp__law_take K A) [] E0 (tCons (tVar 0) (tCons (tOp rAdd (tOp rMulW (tC (.int 2)) (tOp rPow (tC (.int 10)) (tC (.int 20)))) (tC (.int 1))) tNil))) (tOp rPow (tC (.int 10)) (tC (.int 20)))) (tCons (tOp rAdd (tC (.int 1)) (tCall (sp__law_take K A) [] E0 (tCons (tVar 0) (tCons (tOp rPow (tC (.int 10)) (tC (.int 9))) tNil)))) tNil)))))
def n__law_number : List Str := ["_law_bag_here"]
def sp__law_number (K : PySem.W.Frag) (A : Ads) : Sp := fun vs H Q _ => ∃ (b : Addr) (n : Nat), vs = [.ref b] ∧ Bag (n + 3) H b ∧ ∀ x p q H', Xb b H H' → Bag n H' b → NumAt H' x p q → p.natAbs ≤ 10 ^ 20 → q.natAbs ≤ 10 ^ 9 → Q x H'
theorem len__law_number {K : PySem.W.Frag} {A : Ads} {vs : List V} {H : Hp} {Q : VK} {E : XK} (h : sp__law_number K A vs H Q E) : vs.length = 1 := by
  obtain ⟨p, q, rfl, _⟩ := h
  rfl
theorem pure__law_number {K : PySem.W.Frag} {A : Ads} {vs : List V} {H : Hp} {Q : VK} {E : XK} (h : sp__law_number K A vs H Q E) : t__law_number K A E { nx := fun _ H' => Q .non H', rt := Q } (start n__law_number vs) H := by
  obtain ⟨b, n, rfl, hb, k⟩ := h
  walk_at "v"
  refine ⟨b, 3, n + 2, rfl, hb, by decide, by decide, fun d H1 d0 d1 x1 hb1 => ?_⟩
  walk_at "ii"; walk_at "v"
  refine iteD (fun h0 => ?_) (fun h0 => ?_)
  · walk_at "v"
    refine ⟨b, 11, n + 1, rfl, hb1, by decide, by decide, fun d2 H2 d3 d4 x2 hb2 => ?_⟩
    walk_at "ii"; walk_at "v"
    refine ⟨b, 3, n, rfl, hb2, by decide, by decide, fun d5 H3 d6 d7 x3 hb3 => ?_⟩
    walk_at "ii"
    refine ⟨d2 - 5, 1 + d5, rfl, by omega, by omega, fun x H4 s4 hn => ?_⟩
    have l1 := lowN_le (d2 - 5) (1 + d5) (by omega)
    have l2 := lowD_le (d2 - 5) (1 + d5) (by omega)
    exact k x _ _ H4 ((x1.trans x2).trans (x3.trans (Xb.of s4))) (hb3.same s4) hn (by omega) (by omega)
  · walk_at "v"; refine ⟨_, _, rfl, rfl, ⟨by decide, by decide, by decide⟩, ?_⟩
    refine ⟨_, _, rfl, rfl, wide_mul (a := 8) (b := 128) (by decide) (by decide) (by decide) (by decide) (by decide), ?_⟩
    walk_at "ii"
    refine ⟨b, _, n + 1, rfl, hb1, by decide, by decide, fun d2 H2 d3 d4 x2 hb2 => ?_⟩
    refine ⟨_, _, rfl, rfl, ⟨by decide, by decide, by decide⟩, ?_⟩
    walk_at "ii"; walk_at "v"
    refine ⟨_, _, rfl, rfl, ⟨by decide, by decide, by decide⟩, ?_⟩
    refine ⟨b, _, n, rfl, hb2, by decide, by decide, fun d5 H3 d6 d7 x3 hb3 => ?_⟩
    walk_at "ii"
    have e1 : (10 : Int) ^ (20 : Int).toNat = 100000000000000000000 := by decide
    have e2 : (10 : Int) ^ (9 : Int).toNat = 1000000000 := by decide
    rw [e1] at d4
    rw [e2] at d7
    refine ⟨d2 - 10 ^ (20 : Int).toNat, 1 + d5, rfl, by omega, by omega, fun x H4 s4 hn => ?_⟩
    rw [e1] at hn
    have l1 := lowN_le (d2 - 100000000000000000000) (1 + d5) (by omega)
    have l2 := lowD_le (d2 - 100000000000000000000) (1 + d5) (by omega)
    refine k x _ _ H4 ((x1.trans x2).trans (x3.trans (Xb.of s4))) (hb3.same s4) hn ?_ ?_
    · have : (10 : Nat) ^ 20 = 100000000000000000000 := by decide
      omega
    · have : (10 : Nat) ^ 9 = 1000000000 := by decide
      omega
/-! ### _law_pair, _law_order -/
def t__law_pair (K : PySem.W.Frag) (A : Ads) (E : XK) : TS :=
    (tRet (tIf (tB (tCB (rIsi K) (tCons (tVar 0) (tCons (tC (.ty "tuple")) tNil)))) (tVar 0) (tTup (tCons (tVar 0) (tCons (tC (.int 1)) tNil)))))
def n__law_pair : List Str := ["_law_value_here"]
def sp__law_pair (K : PySem.W.Frag) (A : Ads) : Sp := sp__over K A
theorem len__law_pair {K : PySem.W.Frag} {A : Ads} {vs : List V} {H : Hp} {Q : VK} {E : XK} (h : sp__law_pair K A vs H Q E) : vs.length = 1 := len__over h
theorem pure__law_pair {K : PySem.W.Frag} {A : Ads} {vs : List V} {H : Hp} {Q : VK} {E : XK} (h : sp__law_pair K A vs H Q E) : t__law_pair K A E { nx := fun _ H' => Q .non H', rt := Q } (start n__law_pair vs) H := by
  obtain ⟨x, p, q, rfl, hn, k⟩ := h
  rcases hn with ⟨rfl, rfl⟩ | ⟨a, rfl, ha, h2, hc⟩
  · walk_at "v"
    refine ⟨_, _, _, _, _, rfl, .ty _, ty_int, kit_ty (by decide +kernel : kitB "int" "tuple" = some false), ?_⟩
    walk_at "v"
    refine iteF ?_
    walk_at "v"
    refine ⟨by show 2 ≤ sizeLine; decide, fun t ht => ?_⟩
    exact k _ _ (Same.new ht) ⟨t, rfl, upd_same⟩
  · walk_at "v"
    refine ⟨_, _, _, _, _, rfl, .ty _, ty_tup ha, kit_ty (by decide +kernel : kitB "tuple" "tuple" = some true), ?_⟩
    walk_at "v"
    refine iteT ?_
    walk_at "v"
    exact k _ _ (Same.refl H) ⟨a, rfl, ha⟩
def t__law_order (K : PySem.W.Frag) (A : Ads) (E : XK) : TS :=
    (tSeq (tPar 2 3 (tCons (tCall (sp__law_pair K A) [] E0 (tCons (tVar 0) tNil)) (tCons (tCall (sp__law_pair K A) [] E0 (tCons (tVar 1) tNil)) tNil)))
    (tRet (tOp rSub (tOp rMulW (tOp (rIx K) (tVar 2) (tC (.int 0))) (tOp (rIx K) (tVar 3) (tC (.int 1)))) (tOp rMulW (tOp (rIx K) (tVar 3) (tC (.int 0))) (tOp (rIx K) (tVar 2) (tC (.int 1)))))))
def n__law_order : List Str := ["_law_one", "_law_other", "_law_left", "_law_right"]
def sp__law_order (K : PySem.W.Frag) (A : Ads) : Sp := fun vs H Q _ => ∃ (x y : V) (p q p' q' : Int), vs = [x, y] ∧ NumAt H x p q ∧ NumAt H y p' q' ∧ (p.natAbs < 2 ^ 9000 ∧ q.natAbs < 2 ^ 9000 ∧ p'.natAbs < 2 ^ 9000 ∧ q'.natAbs < 2 ^ 9000) ∧
  ∀ H', Same H H' → Q (.int (p * q' - p' * q)) H'
theorem len__law_order {K : PySem.W.Frag} {A : Ads} {vs : List V} {H : Hp} {Q : VK} {E : XK} (h : sp__law_order K A vs H Q E) : vs.length = 2 := by
  obtain ⟨x, y, p, q, p', q', rfl, _⟩ := h
  rfl
theorem pure__law_order {K : PySem.W.Frag} {A : Ads} {vs : List V} {H : Hp} {Q : VK} {E : XK} (h : sp__law_order K A vs H Q E) : t__law_order K A E { nx := fun _ H' => Q .non H', rt := Q } (start n__law_order vs) H := by
  obtain ⟨x, y, p, q, p', q', rfl, h1, h2, ⟨z1, z2, z3, z4⟩, k⟩ := h
  walk_at "v"
  refine ⟨_, _, _, rfl, h1, fun u H1 s1 hu => ?_⟩
  obtain ⟨a, rfl, ha⟩ := hu
  walk_at "v"
  refine ⟨_, _, _, rfl, h2.same s1, fun u2 H2 s2 hu2 => ?_⟩
  obtain ⟨a2, rfl, ha2⟩ := hu2
  have ha1 := s2 _ _ ha
  refine ⟨_, _, rfl, ?_⟩
  walk_at "v"; walk_at "ixT"; walk_at "v"; walk_at "ixT"; refine ⟨_, _, rfl, rfl, mulW0 z1 z4, ?_⟩
  walk_at "v"; walk_at "ixT"; walk_at "v"; walk_at "ixT"; refine ⟨_, _, rfl, rfl, mulW0 z3 z2, ?_⟩
  walk_at "ii"
  exact k H2 (Same.trans s1 s2)
/-! ### _law_same, _law_is_lowest -/
theorem dp_pair {K : PySem.W.Frag} {H : Hp} {a : Addr} {p q : Int} (h : H a = some (.tup [.int p, .int q])) : Dp K H (.ref a) (.tuple [.int p, .int q]) := .tup (SqT.of h) (.cons (.int p) (.cons (.int q) .nil))
theorem shaped_int (p : Int) : SeqAt.shaped (.int p) = true := rfl
theorem shaped_pair (p q : Int) : SeqAt.shaped (.tuple [.int p, .int q]) = true := by
  unfold SeqAt.shaped
  simp [PyData.canLay0, PyData.canLayAll0, PyData.depth, PyData.depthAll]
theorem NumAt.eqD {K : PySem.W.Frag} {H : Hp} {x y : V} {p q : Int} {Q : VK} (h1 : NumAt H x p q) (h2 : NumAt H y p q) (k : Q (.bl true) H) : rEqD K x y H Q := by
  rcases h1 with ⟨rfl, rfl⟩ | ⟨a, rfl, ha, h3, _⟩
  · rcases h2 with ⟨rfl, _⟩ | ⟨b, rfl, hb, h4, _⟩
    · refine ⟨_, _, .int p, .int p, shaped_int p, shaped_int p, ?_⟩
      have e : PyData.eqv (.int p) (.int p) = true := by simp [PyData.eqv]
      rw [e]; exact k
    · omega
  · rcases h2 with ⟨rfl, h4⟩ | ⟨b, rfl, hb, h4, _⟩
    · omega
    · refine ⟨_, _, dp_pair ha, dp_pair hb, shaped_pair p q, shaped_pair p q, ?_⟩
      have e : PyData.eqv (.tuple [.int p, .int q]) (.tuple [.int p, .int q]) = true := by simp [PyData.eqv, PyData.eqvAll]
      rw [e]; exact k
def t__law_same (K : PySem.W.Frag) (A : Ads) (E : XK) : TS :=
    (tSeq (tIfS (tNot (tB (tCB (rIsi K) (tCons (tVar 1) (tCons (tC (.ty "tuple")) tNil))))) (tRet (tAndV (tCall (sp__law_is_int K A) [] E0 (tCons (tVar 0) tNil)) (tOp (rEqD K) (tVar 0) (tVar 1)))) tNext)
    (tSeq (tIfS (tOr (tNot (tB (tCB (rIsi K) (tCons (tVar 0) (tCons (tC (.ty "tuple")) tNil))))) (tTest (tOp rNe (tCB (rLen K) (tCons (tVar 0) tNil)) (tC (.int 2))))) (tRet (tC (.bl false))) tNext)
    (tRet (tAndV (tCall (sp__law_is_int K A) [] E0 (tCons (tOp (rIx K) (tVar 0) (tC (.int 0))) tNil)) (tAndV (tCall (sp__law_is_int K A) [] E0 (tCons (tOp (rIx K) (tVar 0) (tC (.int 1))) tNil)) (tOp (rEqD K) (tVar 0) (tVar 1)))))))
def n__law_same : List Str := ["_law_actual", "_law_due"]
def sp__law_same (K : PySem.W.Frag) (A : Ads) : Sp := fun vs H Q _ => ∃ (x y : V) (p q : Int), vs = [x, y] ∧ NumAt H x p q ∧ NumAt H y p q ∧ ∀ H', Same H H' → Q (.bl true) H'
theorem len__law_same {K : PySem.W.Frag} {A : Ads} {vs : List V} {H : Hp} {Q : VK} {E : XK} (h : sp__law_same K A vs H Q E) : vs.length = 2 := by
  obtain ⟨x, y, p, q, rfl, _⟩ := h
  rfl
theorem pure__law_same {K : PySem.W.Frag} {A : Ads} {vs : List V} {H : Hp} {Q : VK} {E : XK} (h : sp__law_same K A vs H Q E) : t__law_same K A E { nx := fun _ H' => Q .non H', rt := Q } (start n__law_same vs) H := by
  obtain ⟨x, y, p, q, rfl, h1, h2, k⟩ := h
  have kk := k H (Same.refl H)
  have ee := fun {Q : VK} => NumAt.eqD (K := K) (Q := Q) h1 h2
  rcases h1 with ⟨rfl, rfl⟩ | ⟨a, rfl, ha, h3, _⟩
  · rcases h2 with ⟨rfl, _⟩ | ⟨b, rfl, hb, h4, _⟩
    · walk_at "v"
      refine ⟨_, _, _, _, _, rfl, .ty _, ty_int, kit_ty (by decide +kernel : kitB "int" "tuple" = some false), ?_⟩
      walk_at "v"
      show (if (!false) = true then _ else _)
      refine iteT ?_
      walk_at "v"
      refine ⟨_, _, rfl, ty_int, ⟨_, rfl, ?_⟩⟩
      refine iteT ?_
      walk_at "v"; walk_at "v"
      exact ee kk
    · omega
  · rcases h2 with ⟨rfl, h4⟩ | ⟨b, rfl, hb, h4, _⟩
    · omega
    · walk_at "v"
      refine ⟨_, _, _, _, _, rfl, .ty _, ty_tup hb, kit_ty (by decide +kernel : kitB "tuple" "tuple" = some true), ?_⟩
      walk_at "v"
      show (if (!true) = true then _ else _)
      refine iteF ?_
      walk_at "v"
      refine ⟨_, _, _, _, _, rfl, .ty _, ty_tup ha, kit_ty (by decide +kernel : kitB "tuple" "tuple" = some true), ?_⟩
      walk_at "v"
      show (if (!true) = true then _ else _)
      refine iteF ?_
      walk_at "v"
      refine ⟨_, _, rfl, .inr ⟨_, SqT.of ha, rfl⟩, ?_⟩
      refine ⟨rfl, ?_⟩
      walk_at "v"
      show (if (!decide (V.int 2 = V.int 2)) = true then _ else _)
      refine iteF ?_
      walk_at "v"; walk_at "ixT"
      refine ⟨_, _, rfl, ty_int, ⟨_, rfl, ?_⟩⟩
      refine iteT ?_
      walk_at "v"; walk_at "ixT"
      refine ⟨_, _, rfl, ty_int, ⟨_, rfl, ?_⟩⟩
      refine iteT ?_
      walk_at "v"; walk_at "v"
      exact ee kk
def t__law_is_lowest (K : PySem.W.Frag) (A : Ads) (E : XK) : TS :=
    (tSeq (tIfS (tB (tCall (sp__law_is_int K A) [] E0 (tCons (tVar 0) tNil))) (tRet (tC (.bl true))) tNext)
    (tSeq (tIfS (tOr (tNot (tB (tCB (rIsi K) (tCons (tVar 0) (tCons (tC (.ty "tuple")) tNil))))) (tOr (tTest (tOp rNe (tCB (rLen K) (tCons (tVar 0) tNil)) (tC (.int 2)))) (tOr (tNot (tB (tCall (sp__law_is_int K A) [] E0 (tCons (tOp (rIx K) (tVar 0) (tC (.int 0))) tNil)))) (tNot (tB (tCall (sp__law_is_int K A) [] E0 (tCons (tOp (rIx K) (tVar 0) (tC (.int 1))) tNil))))))) (tRet (tC (.bl false))) tNext)
    (tRet (tAndV (tOp rGt (tOp (rIx K) (tVar 0) (tC (.int 1))) (tC (.int 1))) (tOp (rEqD K) (tCall (sp__law_value K A) [] E0 (tCons (tOp (rIx K) (tVar 0) (tC (.int 0))) (tCons (tOp (rIx K) (tVar 0) (tC (.int 1))) tNil))) (tVar 0))))))
def n__law_is_lowest : List Str := ["_law_value_here"]
def sp__law_is_lowest (K : PySem.W.Frag) (A : Ads) : Sp := fun vs H Q _ => ∃ (x : V) (p q : Int), vs = [x] ∧ NumAt H x p q ∧ q.natAbs < 2 ^ 9000 ∧ ∀ H', Same H H' → Q (.bl true) H'
theorem len__law_is_lowest {K : PySem.W.Frag} {A : Ads} {vs : List V} {H : Hp} {Q : VK} {E : XK} (h : sp__law_is_lowest K A vs H Q E) : vs.length = 1 := by
  obtain ⟨x, p, q, rfl, _⟩ := h
  rfl
theorem pure__law_is_lowest {K : PySem.W.Frag} {A : Ads} {vs : List V} {H : Hp} {Q : VK} {E : XK} (h : sp__law_is_lowest K A vs H Q E) : t__law_is_lowest K A E { nx := fun _ H' => Q .non H', rt := Q } (start n__law_is_lowest vs) H := by
  obtain ⟨x, p, q, rfl, h1, hz, k⟩ := h
  have h0 := h1
  rcases h1 with ⟨rfl, rfl⟩ | ⟨a, rfl, ha, h3, hc⟩
  · walk_at "v"
    refine ⟨_, _, rfl, ty_int, ⟨_, rfl, ?_⟩⟩
    refine iteT ?_
    exact k H (Same.refl H)
  · walk_at "v"
    refine ⟨_, _, rfl, ty_tup ha, ⟨_, rfl, ?_⟩⟩
    refine iteF ?_
    walk_at "v"
    refine ⟨_, _, _, _, _, rfl, .ty _, ty_tup ha, kit_ty (by decide +kernel : kitB "tuple" "tuple" = some true), ?_⟩
    walk_at "v"
    show (if (!true) = true then _ else _)
    refine iteF ?_
    walk_at "v"
    refine ⟨_, _, rfl, .inr ⟨_, SqT.of ha, rfl⟩, ?_⟩
    refine ⟨rfl, ?_⟩
    walk_at "v"
    show (if (!decide (V.int 2 = V.int 2)) = true then _ else _)
    refine iteF ?_
    walk_at "v"; walk_at "ixT"
    refine ⟨_, _, rfl, ty_int, ⟨_, rfl, ?_⟩⟩
    show (if (!true) = true then _ else _)
    refine iteF ?_
    walk_at "v"; walk_at "ixT"
    refine ⟨_, _, rfl, ty_int, ⟨_, rfl, ?_⟩⟩
    show (if (!true) = true then _ else _)
    refine iteF ?_
    walk_at "v"; walk_at "ixT"; walk_at "ii"; walk_at "v"
    refine iteD (fun h5 => ?_) (fun h5 => absurd (by omega) h5)
    walk_at "v"; walk_at "ixT"; walk_at "v"; walk_at "ixT"
    obtain ⟨e1, e2⟩ := low_of_cop hc (by omega)
    refine ⟨p, q, rfl, by omega, hz, fun y H1 s1 hy => ?_⟩
    walk_at "v"
    rw [e1, e2] at hy
    exact NumAt.eqD hy (h0.same s1) (k H1 s1)
end Md

set_option Elab.async false
set_option linter.all false
set_option maxRecDepth 100000
set_option maxHeartbeats 4000000
set_option exponentiation.threshold 20000
namespace Md
open PySem PySem.Spec PyProof.Rows PySem.Calls L2
local macro_rules | `(tactic| walk_at "v") => `(tactic| refine ⟨_, rfl, ?_⟩)
local macro_rules | `(tactic| walk_at "ii") => `(tactic| refine ⟨_, _, rfl, rfl, ?_⟩)
local macro_rules | `(tactic| walk_at "ixL") => `(tactic| refine Or.inl ⟨_, _, _, _, rfl, rfl, SqL.of (by assumption), rfl, ?_⟩)
local macro_rules | `(tactic| walk_at "ixT") => `(tactic| refine Or.inr (Or.inl ⟨_, _, _, _, rfl, rfl, SqT.of (by assumption), rfl, ?_⟩))

/-! ### the fraction between two: the mathematics -/
structure Good (l1 l2 h1 h2 t b : Int) : Prop where
  t0 : 0 < t
  b0 : 0 < b
  lo : l1 * b < t * l2
  hi : t * h2 < h1 * b
  ts : t ≤ l1 + h1
  bs : b ≤ l2 + h2
theorem good_step {l1 l2 h1 h2 w t b : Int} (hw : 0 ≤ w) (g : Good h2 (h1 - w * h2) l2 (l1 - w * l2) t b) : Good l1 l2 h1 h2 (w * t + b) t := by
  obtain ⟨t0, b0, lo, hi, ts, bs⟩ := g
  have w0 : 0 ≤ w * t := Int.mul_nonneg hw (by omega)
  rw [Int.mul_sub] at lo hi
  have e1 : t * (w * l2) = w * t * l2 := by ac_rfl
  have e2 : t * (w * h2) = w * t * h2 := by ac_rfl
  have e3 : t * l1 = l1 * t := by ac_rfl
  have e4 : t * h1 = h1 * t := by ac_rfl
  have e5 : l2 * b = b * l2 := by ac_rfl
  have e6 : h2 * b = b * h2 := by ac_rfl
  refine ⟨by omega, t0, ?_, ?_, ?_, by omega⟩
  · rw [Int.add_mul]; omega
  · rw [Int.add_mul]; omega
  · have m1 : w * t ≤ w * (h2 + l2) := Int.mul_le_mul_of_nonneg_left ts hw
    rw [Int.mul_add] at m1
    omega
/-- the greatest number that a step meets -/
def BB : Int := 2 ^ 8000
theorem BB_nat {x : Int} (h0 : 0 ≤ x) (h1 : x < BB) : x.natAbs < 2 ^ 8000 := by
  have e : BB = ((2 ^ 8000 : Nat) : Int) := by decide +kernel
  rw [e] at h1
  omega
theorem BB_of {x : Int} (h1 : x.natAbs < 2 ^ 8000) : x < BB := by
  have e : BB = ((2 ^ 8000 : Nat) : Int) := by decide +kernel
  rw [e]
  omega
theorem BB_one : 1 < BB := by decide +kernel
inductive Ch (L1 L2 H1 H2 : Int) : List Int → Int → Int → Int → Int → Prop
  | nil : Ch L1 L2 H1 H2 [] L1 L2 H1 H2
  | cons {w : Int} {ws : List Int} {l1 l2 h1 h2 : Int} (c : Ch L1 L2 H1 H2 ws l1 l2 h1 h2) (hw : 0 ≤ w) (hB : w < BB) (b1 : h2 < BB) (b2 : l2 < BB) : Ch L1 L2 H1 H2 (w :: ws) h2 (h1 - w * h2) l2 (l1 - w * l2)
structure Lv (ws : List Int) (l1 l2 h1 h2 w : Int) : Prop where
  p1 : 0 ≤ l1
  p2 : 0 < l2
  p3 : 0 < h1
  p4 : 0 ≤ h2
  b1 : l1 < BB
  b2 : l2 < BB
  b3 : h1 < BB
  b4 : h2 < BB
  lt : l1 * h2 < h1 * l2
  w : w = l1 / l2
  lg : ws = [] ∨ (l2 ≤ l1 ∧ ∃ k, ws.length = k + 1 ∧ 2 ^ k * (l1 * h2).natAbs < 2 ^ 16000)
theorem Lv.div {ws : List Int} {l1 l2 h1 h2 w : Int} (L : Lv ws l1 l2 h1 h2 w) : 0 ≤ w ∧ w * l2 ≤ l1 ∧ l1 < (w + 1) * l2 ∧ w ≤ l1 := by
  have h := L.w
  have p2 := L.p2
  have e1 := Int.mul_ediv_add_emod l1 l2
  have e2 := Int.emod_nonneg l1 (by omega : l2 ≠ 0)
  have e3 := Int.emod_lt_of_pos l1 p2
  have e4 : 0 ≤ w := by rw [h]; exact Int.ediv_nonneg L.p1 (by omega)
  rw [← h] at e1
  have e5 : l2 * w = w * l2 := by ac_rfl
  refine ⟨e4, by omega, by rw [Int.add_mul]; omega, ?_⟩
  have : w * 1 ≤ w * l2 := Int.mul_le_mul_of_nonneg_left (by omega) e4
  omega
theorem natAbs_lt_mul {a b : Int} (h0 : 0 ≤ a) (h : a < BB) (h1 : 0 ≤ b) (h2 : b < BB) : (a * b).natAbs < 2 ^ 16000 := int_mul_lt (m := 8000) (n := 8000) (BB_nat h0 h) (BB_nat h1 h2)
/-- one turn of the while -/
theorem Lv.step {ws : List Int} {l1 l2 h1 h2 w : Int} (L : Lv ws l1 l2 h1 h2 w) (c : (w + 1) * h2 ≥ h1) :
    0 < h2 ∧ ws.length < 16002 ∧ (h1 - w * h2) + (l1 - w * l2) < l2 + h2 ∧ 0 < h1 - w * h2 ∧ Lv (w :: ws) h2 (h1 - w * h2) l2 (l1 - w * l2) (h2 / (h1 - w * h2)) := by
  obtain ⟨w0, d1, d2, d3⟩ := L.div
  obtain ⟨p1, p2, p3, p4, b1, b2, b3, b4, lt, hw, lg⟩ := L
  rw [Int.add_mul, Int.one_mul] at c d2
  have h2p : 0 < h2 := by
    rcases Int.lt_or_le 0 h2 with z | z
    · exact z
    · have : h2 = 0 := by omega
      subst this
      simp at c
      omega
  have k1 : w * h2 < h1 := by
    rcases Int.lt_or_le (w * h2) h1 with z | z
    · exact z
    · exfalso
      have m1 : h1 * l2 ≤ w * h2 * l2 := Int.mul_le_mul_of_nonneg_right z (by omega)
      have m2 : w * l2 * h2 ≤ l1 * h2 := Int.mul_le_mul_of_nonneg_right d1 (by omega)
      have e : w * h2 * l2 = w * l2 * h2 := by ac_rfl
      omega
  refine ⟨h2p, ?_, by omega, by omega, ⟨p4, by omega, p2, by omega, b4, by omega, b2, by omega, ?_, rfl, ?_⟩⟩
  · rcases lg with e | ⟨hl, k, e, hk⟩
    · subst e; simp
    · have l1p : 0 < l1 := by omega
      have : 0 < l1 * h2 := Int.mul_pos l1p h2p
      have h3 : 2 ^ k < 2 ^ 16000 := by
        refine Nat.lt_of_le_of_lt ?_ hk
        exact Nat.le_mul_of_pos_right _ (by omega)
      have := (Nat.pow_lt_pow_iff_right (a := 2) (by decide)).mp h3
      omega
  · rw [Int.mul_sub, Int.mul_sub]
    have e1 : h2 * (w * l2) = l2 * (w * h2) := by ac_rfl
    have e2 : h2 * l1 = l1 * h2 := by ac_rfl
    have e3 : l2 * h1 = h1 * l2 := by ac_rfl
    omega
  · refine .inr ⟨by omega, ws.length, rfl, ?_⟩
    rcases lg with e | ⟨hl, k, e, hk⟩
    · subst e
      have := natAbs_lt_mul p4 b4 (by omega : 0 ≤ l1 - w * l2) (by omega)
      simpa using this
    · have w1 : 1 ≤ w := by
        rcases Int.lt_or_le 0 w with z | z
        · omega
        · have : w = 0 := by omega
          subst this
          omega
      have m1 : 1 * l2 ≤ w * l2 := Int.mul_le_mul_of_nonneg_right w1 (by omega)
      have r : 2 * (l1 - w * l2).natAbs ≤ l1.natAbs := by omega
      refine Nat.lt_of_le_of_lt ?_ hk
      rw [e, Int.natAbs_mul, Int.natAbs_mul, Nat.pow_succ]
      calc 2 ^ k * 2 * (h2.natAbs * (l1 - w * l2).natAbs) = 2 ^ k * (h2.natAbs * (2 * (l1 - w * l2).natAbs)) := by ac_rfl
        _ ≤ 2 ^ k * (h2.natAbs * l1.natAbs) := Nat.mul_le_mul_left _ (Nat.mul_le_mul_left _ r)
        _ = 2 ^ k * (l1.natAbs * h2.natAbs) := by ac_rfl
theorem Lv.base {ws : List Int} {l1 l2 h1 h2 w : Int} (L : Lv ws l1 l2 h1 h2 w) (c : ¬ (w + 1) * h2 ≥ h1) : Good l1 l2 h1 h2 (w + 1) 1 := by
  obtain ⟨w0, d1, d2, d3⟩ := L.div
  obtain ⟨p1, p2, p3, p4, b1, b2, b3, b4, lt, hw, lg⟩ := L
  exact ⟨by omega, by decide, by omega, by omega, by omega, by omega⟩
theorem good_low {l1 l2 h1 h2 t b : Int} (g : Good l1 l2 h1 h2 t b) : Good l1 l2 h1 h2 (lowN t b) (lowD t b) := by
  obtain ⟨t0, b0, lo, hi, ts, bs⟩ := g
  have g0 := gI_pos (p := t) (q := b) (by omega)
  have e1 := low_l t b
  have e2 := low_r t b
  have d0 := lowD_pos (p := t) b0
  have n0 : 0 < lowN t b := by
    rcases Int.lt_or_le 0 (lowN t b) with z | z
    · exact z
    · have := Int.mul_nonpos_of_nonneg_of_nonpos (Int.le_of_lt g0) z
      omega
  have n1 := lowN_le t b (by omega)
  have n2 := lowD_le t b (by omega)
  refine ⟨n0, d0, ?_, ?_, by omega, by omega⟩
  · refine Int.lt_of_mul_lt_mul_left (a := gI t b) ?_ (by omega)
    have a1 : gI t b * (l1 * lowD t b) = l1 * (gI t b * lowD t b) := by ac_rfl
    have a2 : gI t b * (lowN t b * l2) = (gI t b * lowN t b) * l2 := by ac_rfl
    rw [a1, a2, e1, e2]
    exact lo
  · refine Int.lt_of_mul_lt_mul_left (a := gI t b) ?_ (by omega)
    have a1 : gI t b * (lowN t b * h2) = (gI t b * lowN t b) * h2 := by ac_rfl
    have a2 : gI t b * (h1 * lowD t b) = h1 * (gI t b * lowD t b) := by ac_rfl
    rw [a1, a2, e1, e2]
    exact hi

/-! ### _simplest_above -/
def t__simplest_above (K : PySem.W.Frag) (A : Ads) (E : XK) : TS :=
    (tSeq (tAsg (tLst tNil) (gName 2))
    (tSeq (tAsg (tOp rFdvW (tOp (rIx K) (tVar 0) (tC (.int 0))) (tOp (rIx K) (tVar 0) (tC (.int 1)))) (gName 3))
    (tSeq (tWhile (tTest (tOp rGe (tOp rMulW (tOp rAdd (tVar 3) (tC (.int 1))) (tOp (rIx K) (tVar 1) (tC (.int 1)))) (tOp (rIx K) (tVar 1) (tC (.int 0))))) (tSeq (tDrop (tBM K "list" rAppend (tVar 2) (tCons (tVar 3) tNil)))
    (tSeq (tPar 0 1 (tCons (tTup (tCons (tOp (rIx K) (tVar 1) (tC (.int 1))) (tCons (tOp rSub (tOp (rIx K) (tVar 1) (tC (.int 0))) (tOp rMulW (tVar 3) (tOp (rIx K) (tVar 1) (tC (.int 1))))) tNil))) (tCons (tTup (tCons (tOp (rIx K) (tVar 0) (tC (.int 1))) (tCons (tOp rSub (tOp (rIx K) (tVar 0) (tC (.int 0))) (tOp rMulW (tVar 3) (tOp (rIx K) (tVar 0) (tC (.int 1))))) tNil))) tNil)))
    (tAsg (tOp rFdvW (tOp (rIx K) (tVar 0) (tC (.int 0))) (tOp (rIx K) (tVar 0) (tC (.int 1)))) (gName 3)))))
    (tSeq (tPar 5 6 (tCons (tOp rAdd (tVar 3) (tC (.int 1))) (tCons (tC (.int 1)) tNil)))
    (tSeq (tFor (iList K (tRevL K (tVar 2))) (gName 4) (tPar 5 6 (tCons (tOp rAdd (tOp rMulW (tVar 4) (tVar 5)) (tVar 6)) (tCons (tVar 5) tNil))))
    (tRet (tCall (sp_number K A) [] E (tCons (tVar 5) (tCons (tVar 6) tNil)))))))))
def n__simplest_above : List Str := ["low", "high", "wholes", "whole", "part", "top", "bottom"]
def sp__simplest_above (K : PySem.W.Frag) (A : Ads) : Sp := fun vs H Q _ => ∃ (x y : V) (l1 l2 h1 h2 : Int), vs = [x, y] ∧ PairAt H x l1 l2 ∧ PairAt H y h1 h2 ∧ (0 ≤ l1 ∧ 0 < l2 ∧ 0 < h1 ∧ 0 ≤ h2) ∧ (l1 < BB ∧ l2 < BB ∧ h1 < BB ∧ h2 < BB) ∧ l1 * h2 < h1 * l2 ∧
  ∀ z H' t b, Same H H' → NumAt H' z t b → Good l1 l2 h1 h2 t b → Q z H'
theorem len__simplest_above {K : PySem.W.Frag} {A : Ads} {vs : List V} {H : Hp} {Q : VK} {E : XK} (h : sp__simplest_above K A vs H Q E) : vs.length = 2 := by
  obtain ⟨x, y, p, q, p', q', rfl, _⟩ := h
  rfl
theorem Ch.bound {L1 L2 H1 H2 : Int} (hL : L1 + H1 < 2 * BB) {ws : List Int} {l1 l2 h1 h2 : Int} (c : Ch L1 L2 H1 H2 ws l1 l2 h1 h2) : l1 + h1 < 2 * BB := by
  cases c with
  | nil => exact hL
  | cons c hw hB b1 b2 => omega
theorem small_B {t : Int} (h0 : 0 < t) (h : t < 2 * BB) : t.natAbs < 2 ^ 8001 := by
  have e : BB = ((2 ^ 8000 : Nat) : Int) := by decide +kernel
  rw [e] at h
  have e2 : (2 : Nat) ^ 8001 = 2 * 2 ^ 8000 := by decide +kernel
  rw [e2]
  omega
theorem pure__simplest_above {K : PySem.W.Frag} {A : Ads} {vs : List V} {H : Hp} {Q : VK} {E : XK} (h : sp__simplest_above K A vs H Q E) : t__simplest_above K A E { nx := fun _ H' => Q .non H', rt := Q } (start n__simplest_above vs) H := by
  obtain ⟨x, y, L1, L2, H1, H2, rfl, ⟨a0, rfl, ha0⟩, ⟨b0, rfl, hb0⟩, ⟨p1, p2, p3, p4⟩, ⟨z1, z2, z3, z4⟩, hlt, k⟩ := h
  refine ⟨by show 0 ≤ sizeLine; decide, fun W hW => ?_⟩
  have hd : ∀ {l1 l2 : Int}, 0 < l2 → l2 < BB → CDivW l1 l2 := fun h1 h2 => ⟨h1, pow_lt (pow_mono (BB_nat (by omega) h2) (by decide)) (by decide)⟩
  have s0 : Same H (upd H W (.lst [])) := Same.new hW
  have ha1 := s0 _ _ ha0
  have hb1 := s0 _ _ hb0
  walk_at "v"; walk_at "ixT"; walk_at "v"; walk_at "ixT"; refine ⟨_, _, rfl, rfl, hd p2 z2, ?_⟩
  refine ⟨fun m σ H' => ∃ (a b : Addr) (ws : List Int) (l1 l2 h1 h2 w : Int), σ = [some (.ref a), some (.ref b), some (.ref W), some (.int w), none, none, none] ∧ H' a = some (.tup [.int l1, .int l2]) ∧ H' b = some (.tup [.int h1, .int h2]) ∧
    H' W = some (.lst (ws.reverse.map V.int)) ∧ Same H H' ∧ Lv ws l1 l2 h1 h2 w ∧ Ch L1 L2 H1 H2 ws l1 l2 h1 h2 ∧ m = (l2 + h2).toNat, ⟨_, a0, b0, [], L1, L2, H1, H2, _, rfl, ha1, hb1, upd_same, s0, ⟨p1, p2, p3, p4, z1, z2, z3, z4, hlt, rfl, .inl rfl⟩, .nil, rfl⟩, ?_⟩
  rintro m σ H' ⟨a, b, ws, l1, l2, h1, h2, w, rfl, ha, hb, hw, sH, L, C, rfl⟩
  obtain ⟨w0, d1, d2, d3⟩ := L.div
  have Lp1 := L.p1
  have Lp2 := L.p2
  have Lp4 := L.p4
  have Lb1 := L.b1
  have Lb2 := L.b2
  have Lb4 := L.b4
  have nw : (w + 1).natAbs < 2 ^ 9000 := pow_mono (small_B (by omega) (by omega : w + 1 < 2 * BB)) (by decide)
  have nh2 : h2.natAbs < 2 ^ 9000 := pow_mono (BB_nat Lp4 Lb4) (by decide)
  have nww : w.natAbs < 2 ^ 9000 := pow_mono (BB_nat w0 (by omega)) (by decide)
  have nl2 : l2.natAbs < 2 ^ 9000 := pow_mono (BB_nat (by omega) Lb2) (by decide)
  walk_at "v"; walk_at "ii"; walk_at "v"; walk_at "ixT"; refine ⟨_, _, rfl, rfl, mulW0 nw nh2, ?_⟩
  walk_at "v"; walk_at "ixT"; walk_at "ii"; walk_at "v"
  refine iteD (fun hc => ?_) (fun hc => ?_)
  · obtain ⟨q1, q2, q3, q4, L'⟩ := L.step hc
    refine ⟨_, fun σ' H' z => z, ?_⟩
    -- wholes.append(whole)
    walk_at "v"
    refine ⟨Or.inl ⟨rfl, _, SqL.of hw⟩, ?_⟩
    walk_at "v"
    refine ⟨_, _, _, rfl, rfl, hw, ?_, ?_⟩
    · rw [List.length_map, List.length_reverse]
      exact Nat.lt_trans q2 (by decide)
    have na : a ≠ W := ne_of ha hw (by intro z; cases z)
    have nb : b ≠ W := ne_of hb hw (by intro z; cases z)
    have ha2 : (upd H' W (.lst (ws.reverse.map V.int ++ [V.int w]))) a = some (.tup [.int l1, .int l2]) := by rw [upd_ne na]; exact ha
    have hb2 : (upd H' W (.lst (ws.reverse.map V.int ++ [V.int w]))) b = some (.tup [.int h1, .int h2]) := by rw [upd_ne nb]; exact hb
    have hw2 : (upd H' W (.lst (ws.reverse.map V.int ++ [V.int w]))) W = some (.lst ((w :: ws).reverse.map V.int)) := by
      rw [upd_same, List.reverse_cons, List.map_append]
      rfl
    have sH2 : Same H (upd H' W (.lst (ws.reverse.map V.int ++ [V.int w]))) := fun c o e => by
      rw [upd_ne (ne_of_none e hW)]
      exact sH c o e
    generalize upd H' W (.lst (ws.reverse.map V.int ++ [V.int w])) = H3 at ha2 hb2 hw2 sH2 ⊢
    walk_at "v"; walk_at "ixT"; walk_at "v"; walk_at "ixT"; walk_at "v"; walk_at "v"; walk_at "ixT"; refine ⟨_, _, rfl, rfl, mulW0 nww nh2, ?_⟩; walk_at "ii"
    refine ⟨by show 2 ≤ sizeLine; decide, fun t ht => ?_⟩
    have s4 : Same H3 (upd H3 t (.tup [.int h2, .int (h1 - w * h2)])) := Same.new ht
    have ha4 := s4 _ _ ha2
    have ht4 : (upd H3 t (.tup [.int h2, .int (h1 - w * h2)])) t = some (.tup [.int h2, .int (h1 - w * h2)]) := upd_same
    have hw4 := s4 _ _ hw2
    have sH4 := Same.trans sH2 s4
    generalize upd H3 t (.tup [.int h2, .int (h1 - w * h2)]) = H4 at ha4 ht4 hw4 sH4 ⊢
    walk_at "v"; walk_at "ixT"; walk_at "v"; walk_at "ixT"; walk_at "v"; walk_at "v"; walk_at "ixT"; refine ⟨_, _, rfl, rfl, mulW0 nww nl2, ?_⟩; walk_at "ii"
    refine ⟨by show 2 ≤ sizeLine; decide, fun u hu => ?_⟩
    have s5 : Same H4 (upd H4 u (.tup [.int l2, .int (l1 - w * l2)])) := Same.new hu
    have ht5 := s5 _ _ ht4
    have hu5 : (upd H4 u (.tup [.int l2, .int (l1 - w * l2)])) u = some (.tup [.int l2, .int (l1 - w * l2)]) := upd_same
    have hw5 := s5 _ _ hw4
    have sH5 := Same.trans sH4 s5
    generalize upd H4 u (.tup [.int l2, .int (l1 - w * l2)]) = H5 at ht5 hu5 hw5 sH5 ⊢
    refine ⟨_, _, rfl, ?_⟩
    walk_at "v"; walk_at "ixT"; walk_at "v"; walk_at "ixT"; refine ⟨_, _, rfl, rfl, hd q4 L'.b2, ?_⟩
    exact ⟨_, by omega, t, u, w :: ws, h2, h1 - w * h2, l2, l1 - w * l2, _, rfl, ht5, hu5, hw5, sH5, L', .cons C w0 (by omega) Lb4 Lb2, rfl⟩
  · -- behind the while
    have G := L.base hc
    walk_at "v"; walk_at "ii"
    refine ⟨_, _, rfl, ?_⟩
    walk_at "v"
    refine ⟨_, _, rfl, SqL.of hw, fun R hR => ?_⟩
    have s6 : Same H' (upd H' R (.lst (ws.reverse.map V.int).reverse)) := Same.new hR
    have hR6 : (upd H' R (.lst (ws.reverse.map V.int).reverse)) R = some (.lst (ws.map V.int)) := by
      rw [upd_same, ← List.map_reverse, List.reverse_reverse]
    have sH6 := Same.trans sH s6
    generalize upd H' R (.lst (ws.reverse.map V.int).reverse) = H6 at hR6 sH6 ⊢
    refine ⟨R, rfl, ⟨_, SqL.of hR6⟩, for_list (K := K) (a := R) (xs := ws.map V.int)
      (fun i σ H' => H' = H6 ∧ ∃ (v : Option V) (m1 m2 m3 m4 t b' : Int), Ch L1 L2 H1 H2 (ws.drop i) m1 m2 m3 m4 ∧ Good m1 m2 m3 m4 t b' ∧ σ = [some (.ref a), some (.ref b), some (.ref W), some (.int w), v, some (.int t), some (.int b')])
      ⟨rfl, none, _, _, _, _, _, _, C, G, rfl⟩ (fun i σ H' _ z => by rw [z.1]; exact SqL.of hR6) ?_ ?_⟩
    · rintro i xv σ H' hi ⟨rfl, v, m1, m2, m3, m4, t, b', C, G, rfl⟩
      rw [List.getElem?_map] at hi
      cases e : ws[i]? with
      | none => rw [e] at hi; cases hi
      | some w' =>
        rw [e] at hi
        obtain rfl : V.int w' = xv := Option.some.inj hi
        obtain ⟨hlen, ew⟩ := List.getElem?_eq_some_iff.mp e
        rw [List.drop_eq_getElem_cons hlen, ew] at C
        have tb := C.bound (by omega)
        have gts := G.ts
        have gt0 := G.t0
        cases C with
        | cons c hw' hB' b1' b2' =>
          walk_at "v"; walk_at "v"; refine ⟨_, _, rfl, rfl, mulW0 (pow_mono (BB_nat hw' hB') (by decide)) (pow_mono (small_B gt0 (by omega)) (by decide)), ?_⟩
          walk_at "v"; walk_at "ii"; walk_at "v"
          refine ⟨_, _, rfl, ?_⟩
          exact ⟨rfl, _, _, _, _, _, _, _, c, good_step hw' G, rfl⟩
    · rintro σ H' ⟨rfl, v, m1, m2, m3, m4, t, b', C, G, rfl⟩
      rw [List.length_map, List.drop_length] at C
      cases C with
      | nil =>
        have gb0 := G.b0
        have gbs := G.bs
        walk_at "v"; walk_at "v"
        refine ⟨t, b', rfl, pow_mono (small_B gb0 (by omega)) (by decide), fun _ x H7 s7 hn => ?_, fun z => absurd z (by omega)⟩
        have e1 : frN t b' = lowN t b' := by unfold frN; rw [if_neg (by omega)]
        have e2 : frD t b' = lowD t b' := by unfold frD; rw [if_neg (by omega)]
        rw [e1, e2] at hn
        exact k x H7 _ _ (Same.trans sH6 s7) hn (good_low G)
end Md

set_option Elab.async false
set_option linter.all false
set_option maxRecDepth 100000
set_option maxHeartbeats 4000000
set_option exponentiation.threshold 20000
namespace Md
open PySem PySem.Spec PyProof.Rows PySem.Calls L2
local macro_rules | `(tactic| walk_at "v") => `(tactic| refine ⟨_, rfl, ?_⟩)
local macro_rules | `(tactic| walk_at "ii") => `(tactic| refine ⟨_, _, rfl, rfl, ?_⟩)
local macro_rules | `(tactic| walk_at "ixL") => `(tactic| refine Or.inl ⟨_, _, _, _, rfl, rfl, SqL.of (by assumption), rfl, ?_⟩)
local macro_rules | `(tactic| walk_at "ixT") => `(tactic| refine Or.inr (Or.inl ⟨_, _, _, _, rfl, rfl, SqT.of (by assumption), rfl, ?_⟩))
/-! ### between -/
def BndAt (H : Hp) (x : V) : Option (Int × Int) → Prop
  | none => x = .non
  | some (p, q) => NumAt H x p q
def Sz (k : Nat) (p q : Int) : Prop := p.natAbs < 2 ^ k ∧ q.natAbs < 2 ^ k
theorem Sz.mono {k j : Nat} {p q : Int} (h : Sz k p q) (l : k ≤ j) : Sz j p q := ⟨pow_mono h.1 l, pow_mono h.2 l⟩
theorem Sz.BB {k : Nat} {p : Int} (h : p.natAbs < 2 ^ k) (l : k ≤ 8000) : p < Md.BB := BB_of (pow_mono h l)
theorem add_lt {x y z : Int} {k : Nat} (h1 : x.natAbs < 2 ^ k) (h2 : y.natAbs < 2 ^ k) (h0 : 0 ≤ z) (h : z ≤ x + y) : z.natAbs < 2 ^ (k + 1) := by
  rw [Nat.pow_succ]
  omega
theorem one_lt {k : Nat} (h : 1 ≤ k) : (1 : Int).natAbs < 2 ^ k := Nat.lt_of_lt_of_le (by decide : (1 : Int).natAbs < 2 ^ 1) (Nat.pow_le_pow_right (by decide) h)
def t_between (K : PySem.W.Frag) (A : Ads) (E : XK) : TS :=
    (tSeq (tAsg (tIf (tTest (tOp rIsN (tVar 0) (tC .non))) (tTup (tCons (tUn rNeg (tC (.int 1))) (tCons (tC (.int 0)) tNil))) (tCall (sp__over K A) [] E0 (tCons (tVar 0) tNil))) (gName 2))
    (tSeq (tAsg (tIf (tTest (tOp rIsN (tVar 1) (tC .non))) (tTup (tCons (tC (.int 1)) (tCons (tC (.int 0)) tNil))) (tCall (sp__over K A) [] E0 (tCons (tVar 1) tNil))) (gName 3))
    (tSeq (tIfS (tTest (tChain rLt rLt (tOp (rIx K) (tVar 2) (tC (.int 0))) (tC (.int 0)) (tOp (rIx K) (tVar 3) (tC (.int 0))))) (tRet (tC (.int 0))) tNext)
    (tSeq (tIfS (tTest (tOp rGe (tOp (rIx K) (tVar 2) (tC (.int 0))) (tC (.int 0)))) (tRet (tCall (sp__simplest_above K A) [] E (tCons (tVar 2) (tCons (tVar 3) tNil)))) tNext)
    (tSeq (tAsg (tCall (sp__over K A) [] E0 (tCons (tCall (sp__simplest_above K A) [] E (tCons (tCall (sp__negative K A) [] E0 (tCons (tVar 3) tNil)) (tCons (tCall (sp__negative K A) [] E0 (tCons (tVar 2) tNil)) tNil))) tNil)) (gTup K 2 (gCons (gName 4) (gCons (gName 5) gNil))))
    (tRet (tCall (sp_number K A) [] E (tCons (tUn rNeg (tVar 4)) (tCons (tVar 5) tNil)))))))))
def n_between : List Str := ["low", "high", "lower", "upper", "top", "bottom"]
def sp_between (K : PySem.W.Frag) (A : Ads) : Sp := fun vs H Q _ => ∃ (x y : V) (lo hi : Option (Int × Int)) (k : Nat), vs = [x, y] ∧ BndAt H x lo ∧ BndAt H y hi ∧ (1 ≤ k ∧ k ≤ 7000) ∧ (∀ p q, lo = some (p, q) → Sz k p q) ∧ (∀ p q, hi = some (p, q) → Sz k p q) ∧
  (∀ p q p' q', lo = some (p, q) → hi = some (p', q') → p * q' < p' * q) ∧
  ∀ z H' t b, Same H H' → NumAt H' z t b → Sz (k + 1) t b → (∀ p q, lo = some (p, q) → p * b < t * q) → (∀ p q, hi = some (p, q) → t * q < p * b) → Q z H'
theorem len_between {K : PySem.W.Frag} {A : Ads} {vs : List V} {H : Hp} {Q : VK} {E : XK} (h : sp_between K A vs H Q E) : vs.length = 2 := by
  obtain ⟨x, y, p, q, k, rfl, _⟩ := h
  rfl
/-- a bound as a pair -/
theorem bnd_pair {K : PySem.W.Frag} {A : Ads} {H : Hp} {σ : L2.St} {x : V} {i : Nat} {o : Option (Int × Int)} {e : Int} {te : TE} {Q : VK} (hx : σ[i]? = some (some x)) (h : BndAt H x o)
    (ht : ∀ Q : VK, (∀ p, H p = none → Q (.ref p) (upd H p (.tup [.int e, .int 0]))) → te σ H Q)
    (k : ∀ y H', Same H H' → PairAt H' y (o.getD (e, 0)).1 (o.getD (e, 0)).2 → Q y H') :
    tIf (tTest (tOp rIsN (tVar i) (tC .non))) te (tCall (sp__over K A) [] E0 (tCons (tVar i) tNil)) σ H Q := by
  refine ⟨_, hx, ?_⟩
  refine ⟨rfl, ?_⟩
  walk_at "v"
  cases o with
  | none =>
    have e0 : x = .non := h
    subst e0
    show (if decide (V.non = V.non) = true then _ else _)
    rw [if_pos (by decide)]
    exact ht Q fun p hp => k _ _ (Same.new hp) ⟨p, rfl, upd_same⟩
  | some pq =>
    obtain ⟨p, q⟩ := pq
    have hn : NumAt H x p q := h
    have ne : x ≠ .non := by
      rcases hn with ⟨rfl, _⟩ | ⟨a, rfl, _⟩ <;> intro z <;> cases z
    rw [if_neg (by simp [ne])]
    refine ⟨_, hx, ?_⟩
    exact ⟨_, _, _, rfl, hn, fun y H' s hy => k y H' s hy⟩
theorem pure_between {K : PySem.W.Frag} {A : Ads} {vs : List V} {H : Hp} {Q : VK} {E : XK} (h : sp_between K A vs H Q E) : t_between K A E { nx := fun _ H' => Q .non H', rt := Q } (start n_between vs) H := by
  obtain ⟨x, y, lo, hi, k, rfl, hlo, hhi, ⟨hk1, hk⟩, zlo, zhi, hord, kk⟩ := h
  refine bnd_pair (e := -1) rfl hlo (fun Q q => ?_) fun u H1 s1 hu => ?_
  · walk_at "v"
    exact ⟨by show 2 ≤ sizeLine; decide, fun p hp => q p hp⟩
  have hhi1 : BndAt H1 y hi := by
    cases hi with
    | none => exact hhi
    | some pq => exact NumAt.same hhi s1
  refine bnd_pair (e := 1) rfl hhi1 (fun Q q => ?_) fun v H2 s2 hv => ?_
  · exact ⟨by show 2 ≤ sizeLine; decide, fun p hp => q p hp⟩
  have s12 := Same.trans s1 s2
  have hu2 := hu.same s2
  -- what the pairs are
  have l1z : (lo.getD (-1, 0)).1.natAbs < 2 ^ k := by
    cases lo with
    | none => exact one_lt hk1
    | some pq => exact (zlo pq.1 pq.2 rfl).1
  have l2z : (lo.getD (-1, 0)).2.natAbs < 2 ^ k := by
    cases lo with
    | none => exact Nat.pow_pos (by decide)
    | some pq => exact (zlo pq.1 pq.2 rfl).2
  have u1z : (hi.getD (1, 0)).1.natAbs < 2 ^ k := by
    cases hi with
    | none => exact one_lt hk1
    | some pq => exact (zhi pq.1 pq.2 rfl).1
  have u2z : (hi.getD (1, 0)).2.natAbs < 2 ^ k := by
    cases hi with
    | none => exact Nat.pow_pos (by decide)
    | some pq => exact (zhi pq.1 pq.2 rfl).2
  have cross : (lo.getD (-1, 0)).1 * (hi.getD (1, 0)).2 < (hi.getD (1, 0)).1 * (lo.getD (-1, 0)).2 ∨ (lo = none ∧ hi = none) ∨ (lo = none ∧ (lo.getD (-1, 0)).1 = -1 ∧ (lo.getD (-1, 0)).2 = 0) := by
    cases lo with
    | none => exact .inr (.inr ⟨rfl, rfl, rfl⟩)
    | some pq =>
      have p1 : 0 < pq.2 := NumAt.pos hlo
      cases hi with
      | none => exact .inl (by show pq.1 * 0 < 1 * pq.2; omega)
      | some pq' => exact .inl (hord _ _ _ _ rfl rfl)
  have l2p : ∀ p q, lo = some (p, q) → 0 < q := fun p q e => by subst e; exact NumAt.pos hlo
  have u2p : ∀ p q, hi = some (p, q) → 0 < q := fun p q e => by subst e; exact NumAt.pos hhi
  obtain ⟨L, eL⟩ : ∃ L, L = lo.getD (-1, 0) := ⟨_, rfl⟩
  obtain ⟨U, eU⟩ : ∃ U, U = hi.getD (1, 0) := ⟨_, rfl⟩
  rw [← eL] at hu2 l1z l2z cross
  rw [← eU] at hv u1z u2z cross
  obtain ⟨a, rfl, ha⟩ := hu2
  obtain ⟨b, rfl, hb⟩ := hv
  walk_at "v"; walk_at "ixT"; walk_at "ii"; walk_at "v"
  have rest : ¬ (L.1 < 0 ∧ 0 < U.1) → (tSeq (tIfS (tTest (tOp rGe (tOp (rIx K) (tVar 2) (tC (.int 0))) (tC (.int 0)))) (tRet (tCall (sp__simplest_above K A) [] E (tCons (tVar 2) (tCons (tVar 3) tNil)))) tNext)
    (tSeq (tAsg (tCall (sp__over K A) [] E0 (tCons (tCall (sp__simplest_above K A) [] E (tCons (tCall (sp__negative K A) [] E0 (tCons (tVar 3) tNil)) (tCons (tCall (sp__negative K A) [] E0 (tCons (tVar 2) tNil)) tNil))) tNil)) (gTup K 2 (gCons (gName 4) (gCons (gName 5) gNil))))
    (tRet (tCall (sp_number K A) [] E (tCons (tUn rNeg (tVar 4)) (tCons (tVar 5) tNil))))))
      { nx := fun _ H' => Q .non H', rt := Q } [some x, some y, some (.ref a), some (.ref b), none, none] H2 := by
    intro hno
    walk_at "v"; walk_at "ixT"; walk_at "ii"; walk_at "v"
    refine iteD (fun h0 => ?_) (fun h0 => ?_)
    · -- lower is a number, at least 0
      have elo : ∃ p q, lo = some (p, q) := by
        cases lo with
        | none => exfalso; rw [eL] at h0; exact absurd h0 (by decide)
        | some pq => exact ⟨pq.1, pq.2, rfl⟩
      obtain ⟨p, q, elo⟩ := elo
      have e1 : L = (p, q) := by rw [eL, elo]; rfl
      subst e1
      have q0 := l2p p q elo
      have hc : p * U.2 < U.1 * q := by
        rcases cross with z | ⟨z, _⟩ | ⟨z, _⟩
        · exact z
        · rw [elo] at z; cases z
        · rw [elo] at z; cases z
      have U2n : 0 ≤ U.2 := by
        rw [eU]
        cases hi with
        | none => exact Int.le_refl _
        | some pq' => exact Int.le_of_lt (u2p pq'.1 pq'.2 rfl)
      have U1p : 0 < U.1 := by
        rcases Int.lt_or_le 0 U.1 with z | z
        · exact z
        · exfalso
          have m1 : 0 ≤ p * U.2 := Int.mul_nonneg h0 U2n
          have m2 : U.1 * q ≤ 0 := Int.mul_nonpos_of_nonpos_of_nonneg z (by omega)
          omega
      walk_at "v"; walk_at "v"
      refine ⟨_, _, p, q, U.1, U.2, rfl, ⟨a, rfl, ha⟩, ⟨b, rfl, hb⟩, ⟨h0, q0, U1p, U2n⟩, ⟨Sz.BB l1z (by omega), Sz.BB l2z (by omega), Sz.BB u1z (by omega), Sz.BB u2z (by omega)⟩, hc, fun z H3 t bb s3 hn G => ?_⟩
      obtain ⟨t0, b0, lo1, hi1, ts, bs⟩ := G
      refine kk z H3 t bb (Same.trans s12 s3) hn ⟨add_lt l1z u1z (by omega) ts, add_lt l2z u2z (by omega) bs⟩ (fun p' q' e => ?_) (fun p' q' e => ?_)
      · rw [elo] at e
        cases e
        exact lo1
      · have e2 : U = (p', q') := by rw [eU, e]; rfl
        rw [e2] at hi1
        exact hi1
    · -- both at most 0: turned about
      have hU : U.1 ≤ 0 := by
        rcases Int.lt_or_le 0 U.1 with z | z
        · exact absurd ⟨by omega, z⟩ hno
        · exact z
      have ehi : ∃ p q, hi = some (p, q) := by
        cases hi with
        | none => exfalso; rw [eU] at hU; exact absurd hU (by decide)
        | some pq => exact ⟨pq.1, pq.2, rfl⟩
      obtain ⟨p, q, ehi⟩ := ehi
      have e1 : U = (p, q) := by rw [eU, ehi]; rfl
      subst e1
      have q0 := u2p p q ehi
      have L2n : 0 ≤ L.2 := by
        rw [eL]
        cases lo with
        | none => exact Int.le_refl _
        | some pq' => exact Int.le_of_lt (l2p pq'.1 pq'.2 rfl)
      have hc : (-p) * L.2 < (-L.1) * q := by
        rw [Int.neg_mul, Int.neg_mul]
        rcases cross with z | ⟨_, z⟩ | ⟨_, z1, z2⟩
        · have z' : L.1 * q < p * L.2 := z
          omega
        · rw [ehi] at z; cases z
        · rw [z1, z2]
          omega
      walk_at "v"
      refine ⟨_, _, _, rfl, ⟨b, rfl, hb⟩, fun u3 H3 s3 hu3 => ?_⟩
      walk_at "v"
      refine ⟨_, _, _, rfl, ⟨a, rfl, s3 _ _ ha⟩, fun u4 H4 s4 hu4 => ?_⟩
      refine ⟨_, _, -p, q, -L.1, L.2, rfl, hu3.same s4, hu4, ⟨by omega, q0, by omega, L2n⟩, ⟨Sz.BB (k := k) (by rw [Int.natAbs_neg]; exact u1z) (by omega), Sz.BB u2z (by omega), Sz.BB (k := k) (by rw [Int.natAbs_neg]; exact l1z) (by omega), Sz.BB l2z (by omega)⟩, hc, fun z H5 t bb s5 hn G => ?_⟩
      obtain ⟨t0, b0, lo1, hi1, ts, bs⟩ := G
      refine ⟨_, _, _, rfl, hn, fun u6 H6 s6 hu6 => ?_⟩
      obtain ⟨c, rfl, hc6⟩ := hu6
      refine ⟨c, _, rfl, SqT.of hc6, rfl, _, _, rfl, _, _, rfl, rfl, ?_⟩
      have tz : t.natAbs < 2 ^ (k + 1) := add_lt (x := -p) (y := -L.1) (by rw [Int.natAbs_neg]; exact u1z) (by rw [Int.natAbs_neg]; exact l1z) (by omega) ts
      have bz : bb.natAbs < 2 ^ (k + 1) := add_lt u2z l2z (by omega) bs
      walk_at "v"; walk_at "v"; walk_at "v"
      refine ⟨-t, bb, rfl, pow_mono bz (by omega), fun _ z' H7 s7 hn7 => ?_, fun z => absurd z (by omega)⟩
      have e2 : frN (-t) bb = -t ∧ frD (-t) bb = bb := by
        unfold frN frD
        rw [if_neg (by omega), if_neg (by omega), (low_neg t bb).1, (low_neg t bb).2, (low_of_cop hn.cop b0).1, (low_of_cop hn.cop b0).2]
        exact ⟨rfl, rfl⟩
      rw [e2.1, e2.2] at hn7
      have s27 : Same H H7 := Same.trans s12 (Same.trans (Same.trans s3 s4) (Same.trans (Same.trans s5 s6) s7))
      rw [Int.neg_mul] at lo1 hi1
      refine kk z' H7 (-t) bb s27 hn7 ⟨by rw [Int.natAbs_neg]; exact tz, bz⟩ (fun p' q' e => ?_) (fun p' q' e => ?_)
      · have e3 : L = (p', q') := by rw [eL, e]; rfl
        rw [e3] at hi1
        rw [Int.neg_mul]
        have h1 : t * q' < -(p' * bb) := hi1
        omega
      · rw [ehi] at e
        cases e
        rw [Int.neg_mul]
        omega
  refine iteD (fun h0 => ?_) (fun h0 => ?_)
  · walk_at "v"; walk_at "ixT"; walk_at "ii"; walk_at "v"
    refine iteD (fun h1 => ?_) (fun h1 => rest fun z => h1 z.2)
    refine kk _ _ 0 1 s12 (NumAt.int H2 0) ⟨Nat.pow_pos (by decide), one_lt (by omega)⟩ (fun p q e => ?_) (fun p q e => ?_)
    · have e3 : L = (p, q) := by rw [eL, e]; rfl
      rw [e3] at h0
      have h0' : p < 0 := h0
      omega
    · have e3 : U = (p, q) := by rw [eU, e]; rfl
      rw [e3] at h1
      have h1' : 0 < p := h1
      omega
  · refine ⟨_, rfl, ?_⟩
    show (if false = true then _ else _)
    refine iteF (rest fun z => h0 z.1)
/-! ### _law_compares, _law_stands -/
def t__law_compares (K : PySem.W.Frag) (A : Ads) (E : XK) : TS :=
    (tSeq (tAsg (tCall (sp__law_order K A) [] E0 (tCons (tVar 0) (tCons (tVar 1) tNil))) (gName 2))
    (tSeq (tAsg (tOp rSub (tCB rInt1 (tCons (tOp rGt (tVar 2) (tC (.int 0))) tNil)) (tCB rInt1 (tCons (tOp rLt (tVar 2) (tC (.int 0))) tNil))) (gName 3))
    (tSeq (tIfS (tOr (tNot (tB (tCall (sp__law_same K A) [] E0 (tCons (tCall (sp_compare K A) [] E0 (tCons (tVar 0) (tCons (tVar 1) tNil))) (tCons (tVar 3) tNil))))) (tNot (tB (tCall (sp__law_same K A) [] E0 (tCons (tCall (sp_compare K A) [] E0 (tCons (tVar 1) (tCons (tVar 0) tNil))) (tCons (tUn rNeg (tVar 3)) tNil)))))) (tRet (tC (.bl false))) tNext)
    (tRet (tCall (sp__law_same K A) [] E0 (tCons (tCall (sp_compare K A) [] E0 (tCons (tVar 0) (tCons (tVar 0) tNil))) (tCons (tC (.int 0)) tNil)))))))
def n__law_compares : List Str := ["_law_one", "_law_other", "_law_way", "_law_due"]
def sp__law_compares (K : PySem.W.Frag) (A : Ads) : Sp := fun vs H Q _ => ∃ (x y : V) (p q p' q' : Int), vs = [x, y] ∧ NumAt H x p q ∧ NumAt H y p' q' ∧ Sz 9000 p q ∧ Sz 9000 p' q' ∧ ∀ H', Same H H' → Q (.bl true) H'
theorem len__law_compares {K : PySem.W.Frag} {A : Ads} {vs : List V} {H : Hp} {Q : VK} {E : XK} (h : sp__law_compares K A vs H Q E) : vs.length = 2 := by
  obtain ⟨x, y, p, q, p', q', rfl, _⟩ := h
  rfl
theorem cmp_due (a b : Int) : cmpI a b = (if decide (0 < a - b) = true then (1 : Int) else 0) - (if decide (a - b < 0) = true then (1 : Int) else 0) := by
  unfold cmpI
  by_cases h1 : a < b
  · rw [if_pos h1, if_neg (by simp; omega), if_pos (by simp; omega)]; rfl
  · by_cases h2 : b < a
    · rw [if_neg h1, if_pos h2, if_pos (by simp; omega), if_neg (by simp; omega)]; rfl
    · rw [if_neg h1, if_neg h2, if_neg (by simp; omega), if_neg (by simp; omega)]; rfl
theorem cmp_neg (a b : Int) : cmpI b a = -cmpI a b := by
  unfold cmpI
  split <;> split <;> (try split) <;> omega
theorem cmp_self (a : Int) : cmpI a a = 0 := by
  unfold cmpI
  rw [if_neg (by omega), if_neg (by omega)]
theorem pure__law_compares {K : PySem.W.Frag} {A : Ads} {vs : List V} {H : Hp} {Q : VK} {E : XK} (h : sp__law_compares K A vs H Q E) : t__law_compares K A E { nx := fun _ H' => Q .non H', rt := Q } (start n__law_compares vs) H := by
  obtain ⟨x, y, p, q, p', q', rfl, h1, h2, ⟨z1, z2⟩, ⟨z3, z4⟩, k⟩ := h
  walk_at "v"; walk_at "v"
  refine ⟨_, _, p, q, p', q', rfl, h1, h2, ⟨z1, z2, z3, z4⟩, fun H1 s1 => ?_⟩
  have hd := cmp_due (p * q') (p' * q)
  generalize p * q' - p' * q = D at hd ⊢
  walk_at "v"; walk_at "ii"; refine Or.inr ⟨_, rfl, ?_⟩
  walk_at "v"; walk_at "ii"; refine Or.inr ⟨_, rfl, ?_⟩
  walk_at "ii"
  show (_ : L2.St → Hp → Prop) [some x, some y, some (.int D), some (.int ((if decide (0 < D) = true then (1 : Int) else 0) - (if decide (D < 0) = true then (1 : Int) else 0)))] H1
  rw [← hd]
  walk_at "v"; walk_at "v"
  refine ⟨_, _, p, q, p', q', rfl, h1.same s1, h2.same s1, ⟨z1, z2, z3, z4⟩, fun H2 s2 => ?_⟩
  walk_at "v"
  refine ⟨_, _, _, 1, rfl, NumAt.int _ _, NumAt.int _ _, fun H3 s3 => ?_⟩
  walk_at "v"
  show (if (!true) = true then _ else _)
  refine iteF ?_
  have s13 := Same.trans s1 (Same.trans s2 s3)
  walk_at "v"; walk_at "v"
  refine ⟨_, _, p', q', p, q, rfl, h2.same s13, h1.same s13, ⟨z3, z4, z1, z2⟩, fun H4 s4 => ?_⟩
  walk_at "v"; walk_at "v"
  rw [cmp_neg (p * q') (p' * q)]
  refine ⟨_, _, _, 1, rfl, NumAt.int _ _, NumAt.int _ _, fun H5 s5 => ?_⟩
  walk_at "v"
  show (if (!true) = true then _ else _)
  refine iteF ?_
  have s15 := Same.trans s13 (Same.trans s4 s5)
  walk_at "v"; walk_at "v"
  refine ⟨_, _, p, q, p, q, rfl, h1.same s15, h1.same s15, ⟨z1, z2, z1, z2⟩, fun H6 s6 => ?_⟩
  rw [cmp_self]
  refine ⟨_, _, 0, 1, rfl, NumAt.int _ _, NumAt.int _ _, fun H7 s7 => ?_⟩
  exact k H7 (Same.trans s15 (Same.trans s6 s7))
def t__law_stands (K : PySem.W.Frag) (A : Ads) (E : XK) : TS :=
    (tSeq (tPar3 2 3 4 (tCons (tCall (sp_between K A) [] E (tCons (tVar 0) (tCons (tVar 1) tNil))) (tCons (tCall (sp_between K A) [] E (tCons (tC .non) (tCons (tVar 0) tNil))) (tCons (tCall (sp_between K A) [] E (tCons (tVar 1) (tCons (tC .non) tNil))) tNil))))
    (tSeq (tIfS (tOr (tNot (tB (tCall (sp__law_is_lowest K A) [] E0 (tCons (tVar 2) tNil)))) (tOr (tNot (tB (tCall (sp__law_is_lowest K A) [] E0 (tCons (tVar 3) tNil)))) (tNot (tB (tCall (sp__law_is_lowest K A) [] E0 (tCons (tVar 4) tNil)))))) (tRet (tC (.bl false))) tNext)
    (tSeq (tIfS (tOr (tTest (tOp rGe (tCall (sp__law_order K A) [] E0 (tCons (tVar 0) (tCons (tVar 2) tNil))) (tC (.int 0)))) (tTest (tOp rGe (tCall (sp__law_order K A) [] E0 (tCons (tVar 2) (tCons (tVar 1) tNil))) (tC (.int 0))))) (tRet (tC (.bl false))) tNext)
    (tRet (tAndV (tOp rLt (tCall (sp__law_order K A) [] E0 (tCons (tVar 3) (tCons (tVar 0) tNil))) (tC (.int 0))) (tOp rGt (tCall (sp__law_order K A) [] E0 (tCons (tVar 4) (tCons (tVar 1) tNil))) (tC (.int 0))))))))
def n__law_stands : List Str := ["_law_low", "_law_high", "_law_found", "_law_below", "_law_above"]
def sp__law_stands (K : PySem.W.Frag) (A : Ads) : Sp := fun vs H Q _ => ∃ (x y : V) (p q p' q' : Int) (k : Nat), vs = [x, y] ∧ NumAt H x p q ∧ NumAt H y p' q' ∧ (1 ≤ k ∧ k ≤ 7000) ∧ Sz k p q ∧ Sz k p' q' ∧ p * q' < p' * q ∧ ∀ H', Same H H' → Q (.bl true) H'
theorem len__law_stands {K : PySem.W.Frag} {A : Ads} {vs : List V} {H : Hp} {Q : VK} {E : XK} (h : sp__law_stands K A vs H Q E) : vs.length = 2 := by
  obtain ⟨x, y, p, q, p', q', k, rfl, _⟩ := h
  rfl
theorem pure__law_stands {K : PySem.W.Frag} {A : Ads} {vs : List V} {H : Hp} {Q : VK} {E : XK} (h : sp__law_stands K A vs H Q E) : t__law_stands K A E { nx := fun _ H' => Q .non H', rt := Q } (start n__law_stands vs) H := by
  obtain ⟨x, y, p, q, p', q', k, rfl, h1, h2, hk, z1, z2, hlt, kk⟩ := h
  have big : ∀ {p q : Int}, Sz (k + 1) p q → Sz 9000 p q := fun z => z.mono (by omega)
  walk_at "v"; walk_at "v"
  refine ⟨_, _, some (p, q), some (p', q'), k, rfl, h1, h2, hk, fun a b e => by cases e; exact z1, fun a b e => by cases e; exact z2, fun a b c d e1 e2 => by cases e1; cases e2; exact hlt, fun m H1 t b s1 hm zm lo1 hi1 => ?_⟩
  have lom := lo1 p q rfl
  have him := hi1 p' q' rfl
  walk_at "v"
  refine ⟨_, _, none, some (p, q), k, rfl, rfl, h1.same s1, hk, fun a b e => (by cases e), fun a b e => by cases e; exact z1, fun a b c d e1 _ => (by cases e1), fun l H2 t2 b2 s2 hl zl _ hi2 => ?_⟩
  have hil := hi2 p q rfl
  have s12 := Same.trans s1 s2
  walk_at "v"
  refine ⟨_, _, some (p', q'), none, k, rfl, h2.same s12, rfl, hk, fun a b e => by cases e; exact z2, fun a b e => (by cases e), fun a b c d _ e1 => (by cases e1), fun u H3 t3 b3 s3 hu zu lo3 _ => ?_⟩
  have lou := lo3 p' q' rfl
  have s13 := Same.trans s12 s3
  have hm3 := hm.same (Same.trans s2 s3)
  have hl3 := hl.same s3
  refine ⟨_, _, _, rfl, ?_⟩
  walk_at "v"
  refine ⟨_, t, b, rfl, hm3, (big zm).2, fun H4 s4 => ?_⟩
  walk_at "v"
  show (if (!true) = true then _ else _)
  refine iteF ?_
  walk_at "v"
  refine ⟨_, t2, b2, rfl, hl3.same s4, (big zl).2, fun H5 s5 => ?_⟩
  walk_at "v"
  show (if (!true) = true then _ else _)
  refine iteF ?_
  have s35 := Same.trans s4 s5
  walk_at "v"
  refine ⟨_, t3, b3, rfl, hu.same s35, (big zu).2, fun H6 s6 => ?_⟩
  walk_at "v"
  show (if (!true) = true then _ else _)
  refine iteF ?_
  have s36 := Same.trans s35 s6
  have s06 := Same.trans s13 s36
  have z1' := z1.mono (by omega : k ≤ 9000)
  have z2' := z2.mono (by omega : k ≤ 9000)
  walk_at "v"; walk_at "v"
  refine ⟨_, _, p, q, t, b, rfl, h1.same s06, hm3.same s36, ⟨z1'.1, z1'.2, (big zm).1, (big zm).2⟩, fun H7 s7 => ?_⟩
  walk_at "ii"; walk_at "v"
  refine iteD (fun h => absurd h (by omega)) (fun _ => ?_)
  have s07 := Same.trans s06 s7
  walk_at "v"; walk_at "v"
  refine ⟨_, _, t, b, p', q', rfl, hm3.same (Same.trans s36 s7), h2.same s07, ⟨(big zm).1, (big zm).2, z2'.1, z2'.2⟩, fun H8 s8 => ?_⟩
  walk_at "ii"; walk_at "v"
  refine iteD (fun h => absurd h (by omega)) (fun _ => ?_)
  have s38 := Same.trans s36 (Same.trans s7 s8)
  have s08 := Same.trans s07 s8
  walk_at "v"; walk_at "v"
  refine ⟨_, _, t2, b2, p, q, rfl, hl3.same s38, h1.same s08, ⟨(big zl).1, (big zl).2, z1'.1, z1'.2⟩, fun H9 s9 => ?_⟩
  walk_at "ii"; walk_at "v"
  refine iteD (fun _ => ?_) (fun h => absurd (by omega) h)
  walk_at "v"; walk_at "v"
  refine ⟨_, _, t3, b3, p', q', rfl, hu.same (Same.trans s38 s9), h2.same (Same.trans s08 s9), ⟨(big zu).1, (big zu).2, z2'.1, z2'.2⟩, fun H10 s10 => ?_⟩
  walk_at "ii"
  have e : decide (0 < t3 * q' - p' * b3) = true := decide_eq_true (by omega)
  show Q (.bl (decide (0 < t3 * q' - p' * b3))) H10
  rw [e]
  exact kk H10 (Same.trans s08 (Same.trans s9 s10))

/-! ### the law -/
def t_law (K : PySem.W.Frag) (A : Ads) (E : XK) : TS :=
    (tSeq (tIfS (tNot (tB (tCall (sp__law_is_lowest K A) [] E0 (tCons (tCall (sp_between K A) [] E0 (tCons (tC .non) (tCons (tC .non) tNil))) tNil)))) (tRet (tC (.bl false))) tNext)
    (tSeq (tFor (iRng1 (tCons (tCB rMax2 (tCons (tC (.int 1)) (tCons (tCB rMin2 (tCons (tC (.int 6)) (tCons (tCB (rLen K) (tCons (tVar 0) tNil)) tNil))) tNil))) tNil)) (gName 1) (tSeq (tAsg (tCall (sp__law_bag K A) [] E0 (tCons (tVar 0) (tCons (tVar 1) tNil))) (gName 2))
    (tSeq (tPar 5 6 (tCons (tCall (sp__law_number K A) [] E0 (tCons (tVar 2) tNil)) (tCons (tCall (sp__law_number K A) [] E0 (tCons (tVar 2) tNil)) tNil)))
    (tSeq (tAsg (tCall (sp__law_pair K A) [] E0 (tCons (tVar 5) tNil)) (gName 3))
    (tSeq (tAsg (tCall (sp__law_value K A) [] E0 (tCons (tOp rSub (tOp rAdd (tOp rMulW (tOp (rIx K) (tVar 3) (tC (.int 0))) (tOp rPow (tC (.int 10)) (tC (.int 30)))) (tCall (sp__law_take K A) [] E0 (tCons (tVar 2) (tCons (tC (.int 3)) tNil)))) (tC (.int 1))) (tCons (tOp rMulW (tOp (rIx K) (tVar 3) (tC (.int 1))) (tOp rPow (tC (.int 10)) (tC (.int 30)))) tNil))) (gName 4))
    (tFor (iList K (tLst (tCons (tTup (tCons (tVar 5) (tCons (tVar 6) tNil))) (tCons (tTup (tCons (tVar 5) (tCons (tVar 4) tNil))) (tCons (tTup (tCons (tVar 4) (tCons (tVar 6) tNil))) tNil))))) (gTup K 2 (gCons (gName 7) (gCons (gName 8) gNil))) (tSeq (tIfS (tNot (tB (tCall (sp__law_compares K A) [] E0 (tCons (tVar 7) (tCons (tVar 8) tNil))))) (tRet (tC (.bl false))) tNext)
    (tSeq (tPar 10 11 (tCons (tVar 7) (tCons (tVar 8) tNil)))
    (tSeq (tIfS (tTest (tOp rGt (tCall (sp__law_order K A) [] E0 (tCons (tVar 7) (tCons (tVar 8) tNil))) (tC (.int 0)))) (tPar 10 11 (tCons (tVar 8) (tCons (tVar 7) tNil))) tNext)
    (tFor (iRng1 (tCons (tIf (tTest (tOp rLt (tCall (sp__law_order K A) [] E0 (tCons (tVar 10) (tCons (tVar 11) tNil))) (tC (.int 0)))) (tCall (sp__law_take K A) [] E0 (tCons (tVar 2) (tCons (tC (.int 8)) tNil))) (tC (.int 0))) tNil)) (gName 9) (tSeq (tIfS (tNot (tB (tCall (sp__law_stands K A) [] E0 (tCons (tVar 10) (tCons (tVar 11) tNil))))) (tRet (tC (.bl false))) tNext)
    (tSeq (tAsg (tCall (sp_between K A) [] E0 (tCons (tVar 10) (tCons (tVar 11) tNil))) (gName 12))
    (tIfS (tTest (tOp rEq (tCall (sp__law_take K A) [] E0 (tCons (tVar 2) (tCons (tC (.int 2)) tNil))) (tC (.int 0)))) (tAsg (tVar 12) (gName 10)) (tAsg (tVar 12) (gName 11)))))))))))))))
    (tRet (tC (.bl true)))))
def n_law : List Str := ["_law_script", "_law_at", "_law_bag_here", "_law_pair_here", "_law_near", "_law_one", "_law_other", "_law_first", "_law_second", "_law_turn", "_law_low", "_law_high", "_law_found"]
def sp_law (K : PySem.W.Frag) : Sp := fun vs H Q _ => ∃ (a : Addr) (ns : List Int), vs = [.ref a] ∧ SqL K H a (ns.map V.int) ∧ ns.length ≤ 63 ∧ ∀ H', Q (.bl true) H'
theorem len_law {K : PySem.W.Frag} {vs : List V} {H : Hp} {Q : VK} {E : XK} (h : sp_law K vs H Q E) : vs.length = 1 := by
  obtain ⟨a, ns, rfl, _⟩ := h
  rfl
def PairOf (H : Hp) (x : V) : Prop := ∃ (t : Addr) (u v : V) (p q p' q' : Int), x = .ref t ∧ H t = some (.tup [u, v]) ∧ NumAt H u p q ∧ NumAt H v p' q' ∧ Sz 200 p q ∧ Sz 200 p' q'
theorem PairOf.xb {H H' : Hp} {x : V} {b : Addr} {n : Nat} (h : PairOf H x) (hb : Bag n H b) (s : Xb b H H') : PairOf H' x := by
  obtain ⟨t, u, v, p, q, p', q', e, ht, h1, h2, z⟩ := h
  exact ⟨t, u, v, p, q, p', q', e, s.tupB hb ht, h1.xb hb s, h2.xb hb s, z⟩
theorem PairOf.same {H H' : Hp} {x : V} (h : PairOf H x) (s : Same H H') : PairOf H' x := by
  obtain ⟨t, u, v, p, q, p', q', e, ht, h1, h2, z⟩ := h
  exact ⟨t, u, v, p, q, p', q', e, s _ _ ht, h1.same s, h2.same s, z⟩
theorem Same.sqL {K : PySem.W.Frag} {H H' : Hp} {a : Addr} {xs : List V} (e : Same H H') (h : SqL K H a xs) : SqL K H' a xs := Evl.ex_l e h
theorem SqL.xb {K : PySem.W.Frag} {H H' : Hp} {a b : Addr} {xs : List V} (h : SqL K H a xs) (x : Xb b H H') (hn : a ≠ b) : SqL K H' a xs := by
  rcases h with (h | ⟨o, h⟩) | h
  · exact .inl (.inl (x _ _ hn h))
  · exact .inl (.inr ⟨o, x _ _ hn h⟩)
  · exact .inr h

theorem SqL.xbN {K : PySem.W.Frag} {H H1 H2 : Hp} {a b : Addr} {xs : List V} (h : SqL K H a xs) (hb : H b = none) (s : Same H H1) (x : Xb b H1 H2) : SqL K H2 a xs := by
  rcases h with (h | ⟨o, h⟩) | h
  · exact .inl (.inl (x _ _ (ne_of_none h hb) (s _ _ h)))
  · exact .inl (.inr ⟨o, x _ _ (ne_of_none h hb) (s _ _ h)⟩)
  · exact .inr h
/-- the script, away from the draws' list -/
def ScrAt (K : PySem.W.Frag) (H : Hp) (a b : Addr) (xs : List V) : Prop := ∃ H0 H1, SqL K H0 a xs ∧ H0 b = none ∧ Same H0 H1 ∧ Xb b H1 H
theorem ScrAt.seq {K : PySem.W.Frag} {H : Hp} {a b : Addr} {xs : List V} (h : ScrAt K H a b xs) : SqL K H a xs := by
  obtain ⟨H0, H1, h1, h2, h3, h4⟩ := h
  exact SqL.xbN h1 h2 h3 h4
theorem ScrAt.xb {K : PySem.W.Frag} {H H' : Hp} {a b : Addr} {xs : List V} (h : ScrAt K H a b xs) (x : Xb b H H') : ScrAt K H' a b xs := by
  obtain ⟨H0, H1, h1, h2, h3, h4⟩ := h
  exact ⟨H0, H1, h1, h2, h3, h4.trans x⟩
theorem num_size {x y : Int} (h1 : x.natAbs ≤ 10 ^ 20) (h2 : y.natAbs ≤ 10 ^ 9) : Sz 200 x y := by
  have e1 : (10 : Nat) ^ 20 < 2 ^ 200 := by decide +kernel
  have e2 : (10 : Nat) ^ 9 < 2 ^ 200 := by decide +kernel
  exact ⟨Nat.lt_of_le_of_lt h1 e1, Nat.lt_of_le_of_lt h2 e2⟩
theorem pure_law {K : PySem.W.Frag} {A : Ads} {vs : List V} {H : Hp} {Q : VK} {E : XK} (h : sp_law K vs H Q E) : t_law K A E { nx := fun _ H' => Q .non H', rt := Q } (start n_law vs) H := by
  obtain ⟨a, ns, rfl, hS, hn, k⟩ := h
  refine ⟨_, _, none, none, 1, rfl, rfl, rfl, ⟨by decide, by decide⟩, fun a b e => (by cases e), fun a b e => (by cases e), fun a b c d e _ => (by cases e), fun z H1 t b s1 hz zz _ _ => ?_⟩
  refine ⟨_, t, b, rfl, hz, (zz.mono (by decide)).2, fun H2 s2 => ?_⟩
  walk_at "v"
  show (if (!true) = true then _ else _)
  refine iteF ?_
  have hS2 := Same.sqL (Same.trans s1 s2) hS
  walk_at "v"
  refine ⟨_, _, rfl, Or.inl ⟨_, hS2, rfl⟩, ?_⟩
  refine ⟨_, _, rfl, ?_⟩
  refine ⟨_, _, rfl, ?_⟩
  have hl : (ns.map V.int).length = ns.length := List.length_map ..
  obtain ⟨m, em, hm⟩ : ∃ m : Int, m = (if (if ((ns.map V.int).length : Int) < 6 then ((ns.map V.int).length : Int) else 6) > 1 then (if ((ns.map V.int).length : Int) < 6 then ((ns.map V.int).length : Int) else 6) else 1) ∧ m ≤ 6 := ⟨_, rfl, by split <;> split <;> omega⟩
  rw [← em]
  refine ⟨m, rfl, by omega, by omega, ?_⟩
  refine for_range (lo := 0) (n := m.toNat) (fun i σ H' => SqL K H' a (ns.map V.int) ∧ ∃ v1 v2 v3 v4 v5 v6 v7 v8 v9 v10 v11 v12, σ = [some (.ref a), v1, v2, v3, v4, v5, v6, v7, v8, v9, v10, v11, v12]) ⟨hS2, _, _, _, _, _, _, _, _, _, _, _, _, rfl⟩ ?_ ?_
  rotate_left
  · rintro σ H' ⟨_, _, _, _, _, _, _, _, _, _, _, _, _, rfl⟩
    exact k H'
  rintro i σ H3 hi ⟨hS3, v1, v2, v3, v4, v5, v6, v7, v8, v9, v10, v11, v12, rfl⟩
  -- the draws
  walk_at "v"; walk_at "v"
  refine ⟨a, ns, 0 + i, rfl, hS3, hn, by omega, by omega, fun b H4 hb0 s4 hB => ?_⟩
  have sc : ScrAt K H4 a b (ns.map V.int) := ⟨H3, H4, hS3, hb0, s4, Xb.refl⟩
  have hB4 : Bag (1000 + 3 + 3) H4 b := hB.mono (by decide)
  clear hB
  walk_at "v"
  refine ⟨b, 1000 + 3, rfl, hB4, fun x p q H5 x5 hB5 hx zx1 zx2 => ?_⟩
  walk_at "v"
  refine ⟨b, 1000, rfl, hB5, fun y p' q' H6 x6 hB6 hy zy1 zy2 => ?_⟩
  have hx6 := hx.xb hB5 x6
  have sc6 := (sc.xb x5).xb x6
  refine ⟨_, _, rfl, ?_⟩
  -- one's pair
  walk_at "v"
  refine ⟨_, p, q, rfl, hx6, fun u H7 s7 hu => ?_⟩
  obtain ⟨c, rfl, hc⟩ := hu
  have hx7 := hx6.same s7
  have hy7 := hy.same s7
  have hB7 := hB6.same s7
  have sc7 := sc6.xb (Xb.of s7)
  -- near
  have e30 : (10 : Int) ^ (30 : Int).toNat = 1000000000000000000000000000000 := by decide
  have q0 := hx.pos
  walk_at "v"; walk_at "ixT"; refine ⟨_, _, rfl, rfl, ⟨by decide, by decide, by decide⟩, ?_⟩
  have e20 : (10 : Nat) ^ 20 = 100000000000000000000 := by decide
  have e9 : (10 : Nat) ^ 9 = 1000000000 := by decide
  rw [e20] at zx1 zy1
  rw [e9] at zx2 zy2
  refine ⟨_, _, rfl, rfl, wide_mul (a := 100) (b := 128) (Nat.lt_of_le_of_lt zx1 (by decide)) (by decide) (by decide) (by decide) (by decide), ?_⟩
  walk_at "v"
  refine ⟨b, 3, 999, rfl, hB7, by decide, by decide, fun d H8 d0 d1 x8 hB8 => ?_⟩
  have hc8 := x8.tupB hB7 hc
  have hx8 := hx7.xb hB7 x8
  have hy8 := hy7.xb hB7 x8
  have sc8 := sc7.xb x8
  walk_at "ii"; walk_at "ii"
  walk_at "v"; walk_at "ixT"; refine ⟨_, _, rfl, rfl, ⟨by decide, by decide, by decide⟩, ?_⟩
  refine ⟨_, _, rfl, rfl, wide_mul (a := 100) (b := 128) (Nat.lt_of_le_of_lt zx2 (by decide)) (by decide) (by decide) (by decide) (by decide), ?_⟩
  have B1 : (p * 1000000000000000000000000000000 + d - 1).natAbs < 2 ^ 200 := by
    have : (2 : Nat) ^ 200 = 1606938044258990275541962092341162602522202993782792835301376 := by decide +kernel
    rw [this]
    omega
  have B2 : (q * 1000000000000000000000000000000).natAbs < 2 ^ 200 := by
    have : (2 : Nat) ^ 200 = 1606938044258990275541962092341162602522202993782792835301376 := by decide +kernel
    rw [this]
    omega
  refine ⟨p * 10 ^ (30 : Int).toNat + d - 1, q * 10 ^ (30 : Int).toNat, rfl, by rw [e30]; omega, by rw [e30]; exact pow_mono B2 (by decide), fun z3 H9 s9 hz3 => ?_⟩
  rw [e30] at hz3
  have zz3 : Sz 200 (lowN (p * 1000000000000000000000000000000 + d - 1) (q * 1000000000000000000000000000000)) (lowD (p * 1000000000000000000000000000000 + d - 1) (q * 1000000000000000000000000000000)) :=
    ⟨Nat.lt_of_le_of_lt (lowN_le _ _ (by omega)) B1, Nat.lt_of_le_of_lt (lowD_le _ _ (by omega)) B2⟩
  generalize lowN (p * 1000000000000000000000000000000 + d - 1) (q * 1000000000000000000000000000000) = p3 at hz3 zz3
  generalize lowD (p * 1000000000000000000000000000000 + d - 1) (q * 1000000000000000000000000000000) = q3 at hz3 zz3
  have zx : Sz 200 p q := num_size (by omega) (by omega)
  have zy : Sz 200 p' q' := num_size (by omega) (by omega)
  have hx9 := hx8.same s9
  have hy9 := hy8.same s9
  have hB9 := hB8.same s9
  have sc9 := sc8.xb (Xb.of s9)
  clear hx hy hx6 hx7 hy7 hx8 hy8 hB4 hB5 hB6 hB7 hB8 sc sc6 sc7 sc8 hc hc8 B1 B2 zx1 zx2 zy1 zy2
  -- the three pairs
  walk_at "v"; walk_at "v"
  refine ⟨by show 2 ≤ sizeLine; decide, fun t1 ht1 => ?_⟩
  walk_at "v"; walk_at "v"
  refine ⟨by show 2 ≤ sizeLine; decide, fun t2 ht2 => ?_⟩
  walk_at "v"; walk_at "v"
  refine ⟨by show 2 ≤ sizeLine; decide, fun t3 ht3 => ?_⟩
  refine ⟨by show 3 ≤ sizeLine; decide, fun L hL => ?_⟩
  have sA : Same H9 (upd H9 t1 (.tup [x, y])) := Same.new ht1
  have sB := Same.new (o := .tup [x, z3]) ht2
  have sC := Same.new (o := .tup [z3, y]) ht3
  have sD := Same.new (o := .lst [.ref t1, .ref t2, .ref t3]) hL
  have f1 := (Same.trans sB (Same.trans sC sD)) t1 _ upd_same
  have f2 := (Same.trans sC sD) t2 _ upd_same
  have f3 := sD t3 _ upd_same
  have f4 : (upd (upd (upd (upd H9 t1 (.tup [x, y])) t2 (.tup [x, z3])) t3 (.tup [z3, y])) L (.lst [.ref t1, .ref t2, .ref t3])) L = some (.lst [.ref t1, .ref t2, .ref t3]) := upd_same
  have sAD := Same.trans sA (Same.trans sB (Same.trans sC sD))
  clear sA sB sC sD
  generalize upd (upd (upd (upd H9 t1 (.tup [x, y])) t2 (.tup [x, z3])) t3 (.tup [z3, y])) L (.lst [.ref t1, .ref t2, .ref t3]) = Hm at f1 f2 f3 f4 sAD ⊢
  have hP : ∀ w ∈ [V.ref t1, .ref t2, .ref t3], PairOf Hm w := by
    intro w hw
    have h1 := hx9.same sAD
    have h2 := hy9.same sAD
    have h3 := hz3.same sAD
    rcases List.mem_cons.mp hw with rfl | hw
    · exact ⟨t1, x, y, p, q, p', q', rfl, f1, h1, h2, zx, zy⟩
    rcases List.mem_cons.mp hw with rfl | hw
    · exact ⟨t2, x, z3, p, q, p3, q3, rfl, f2, h1, h3, zx, zz3⟩
    rcases List.mem_cons.mp hw with rfl | hw
    · exact ⟨t3, z3, y, p3, q3, p', q', rfl, f3, h3, h2, zz3, zy⟩
    · cases hw
  have hBm := hB9.same sAD
  have scm := sc9.xb (Xb.of sAD)
  refine ⟨L, rfl, ⟨_, SqL.of f4⟩, ?_⟩
  have nLb : L ≠ b := by
    obtain ⟨D, eD⟩ := hB9.at_
    intro e
    subst e
    have := sAD _ _ eD
    rw [f4] at this
    cases this
    exact absurd (hB9.at_) (by
      rintro ⟨D', eD'⟩
      obtain ⟨l, s, c', e1, _⟩ := hB9
      rw [e1] at eD
      cases eD)
  refine for_list (K := K) (a := L) (xs := [V.ref t1, .ref t2, .ref t3]) (fun i σ H' => ∃ w1 w2 w3 w4 w5 w6 w7 w8 w9 w10 w11 : Option V, σ = [some (.ref a), w1, some (.ref b), w2, w3, w4, w5, w6, w7, w8, w9, w10, w11] ∧
      ScrAt K H' a b (ns.map V.int) ∧ Bag (900 - 20 * i) H' b ∧ H' L = some (.lst [.ref t1, .ref t2, .ref t3]) ∧ ∀ w ∈ [V.ref t1, .ref t2, .ref t3], PairOf H' w)
    ⟨_, _, _, _, _, _, _, _, _, _, _, rfl, scm, hBm.mono (by decide), f4, hP⟩ (fun i σ H' _ z => ?_) ?_ ?_
  · obtain ⟨_, _, _, _, _, _, _, _, _, _, _, rfl, _, _, z, _⟩ := z
    exact SqL.of z
  rotate_left
  · rintro σ H' ⟨w1, w2, w3, w4, w5, w6, w7, w8, w9, w10, w11, rfl, sc, _, _, _⟩
    exact ⟨sc.seq, _, _, _, _, _, _, _, _, _, _, _, _, rfl⟩
  clear hP hBm scm f1 f2 f3 f4 sAD hx9 hy9 hz3 hB9 sc9
  rintro j w σ Hj hj ⟨w1, w2, w3, w4, w5, w6, w7, w8, w9, w10, w11, rfl, sc, hB, hL', hP⟩
  have hj3 : j < 3 := by
    rcases Nat.lt_or_ge j 3 with z | z
    · exact z
    · rw [List.getElem?_eq_none (by simpa using z)] at hj
      cases hj
  obtain ⟨t, u, v, p, q, p', q', rfl, ht, h1, h2, z1, z2⟩ := hP w (List.mem_of_getElem? hj)
  refine ⟨t, _, rfl, SqT.of ht, rfl, _, _, rfl, _, _, rfl, rfl, ?_⟩
  walk_at "v"; walk_at "v"
  refine ⟨_, _, p, q, p', q', rfl, h1, h2, z1.mono (by decide), z2.mono (by decide), fun Hk sk => ?_⟩
  walk_at "v"
  show (if (!true) = true then _ else _)
  refine iteF ?_
  have sck := sc.xb (Xb.of sk)
  have hBk := hB.same sk
  have hLk := sk _ _ hL'
  have hPk : ∀ w ∈ [V.ref t1, .ref t2, .ref t3], PairOf Hk w := fun w hw => (hP w hw).same sk
  have h1k := h1.same sk
  have h2k := h2.same sk
  clear sc hB hL' hP h1 h2 ht
  walk_at "v"; walk_at "v"
  refine ⟨_, _, rfl, ?_⟩
  -- the row of numbers between the two
  have inner : ∀ (Hk : Hp) (lo hi : V) (p q p' q' : Int), ScrAt K Hk a b (ns.map V.int) → Bag (900 - 20 * j) Hk b → Hk L = some (.lst [.ref t1, .ref t2, .ref t3]) → (∀ w ∈ [V.ref t1, .ref t2, .ref t3], PairOf Hk w) → NumAt Hk lo p q → NumAt Hk hi p' q' → Sz 200 p q → Sz 200 p' q' →
      ∀ D : Ends, (∀ σ' H', (∃ w1 w2 w3 w4 w5 w6 w7 w8 w9 w10 w11 : Option V, σ' = [some (.ref a), w1, some (.ref b), w2, w3, w4, w5, w6, w7, w8, w9, w10, w11] ∧
      ScrAt K H' a b (ns.map V.int) ∧ Bag (900 - 20 * (j + 1)) H' b ∧ H' L = some (.lst [.ref t1, .ref t2, .ref t3]) ∧ ∀ w ∈ [V.ref t1, .ref t2, .ref t3], PairOf H' w) → D.nx σ' H') →
      (tFor (iRng1 (tCons (tIf (tTest (tOp rLt (tCall (sp__law_order K A) [] E0 (tCons (tVar 10) (tCons (tVar 11) tNil))) (tC (.int 0)))) (tCall (sp__law_take K A) [] E0 (tCons (tVar 2) (tCons (tC (.int 8)) tNil))) (tC (.int 0))) tNil)) (gName 9) (tSeq (tIfS (tNot (tB (tCall (sp__law_stands K A) [] E0 (tCons (tVar 10) (tCons (tVar 11) tNil))))) (tRet (tC (.bl false))) tNext)
    (tSeq (tAsg (tCall (sp_between K A) [] E0 (tCons (tVar 10) (tCons (tVar 11) tNil))) (gName 12))
    (tIfS (tTest (tOp rEq (tCall (sp__law_take K A) [] E0 (tCons (tVar 2) (tCons (tC (.int 2)) tNil))) (tC (.int 0)))) (tAsg (tVar 12) (gName 10)) (tAsg (tVar 12) (gName 11)))))) D [some (.ref a), w1, some (.ref b), w2, w3, w4, w5, some u, some v, w8, some lo, some hi, w11] Hk := by
    intro Hk lo hi p q p' q' sck hBk hLk hPk h1k h2k z1 z2 D hD
    have z1' : Sz 9000 p q := z1.mono (by decide)
    have z2' : Sz 9000 p' q' := z2.mono (by decide)
    walk_at "v"; walk_at "v"
    refine ⟨_, _, p, q, p', q', rfl, h1k, h2k, ⟨z1'.1, z1'.2, z2'.1, z2'.2⟩, fun Ho so => ?_⟩
    have sco := sck.xb (Xb.of so)
    have hBo := hBk.same so
    have hLo := so _ _ hLk
    have hPo : ∀ w ∈ [V.ref t1, .ref t2, .ref t3], PairOf Ho w := fun w hw => (hPk w hw).same so
    have h1o := h1k.same so
    have h2o := h2k.same so
    walk_at "ii"; walk_at "v"
    refine iteD (fun hlt => ?_) (fun hge => ?_)
    · walk_at "v"
      refine ⟨b, 8, 899 - 20 * j, rfl, hBo.mono (by omega), by decide, by decide, fun d Hd d0 d1 xd hBd => ?_⟩
      refine ⟨d, rfl, by omega, by omega, ?_⟩
      refine for_range (lo := 0) (n := d.toNat) (fun r σ H' => ∃ (y1 y2 : Option V) (lo hi : V) (p q p' q' : Int), σ = [some (.ref a), w1, some (.ref b), w2, w3, w4, w5, some u, some v, y1, some lo, some hi, y2] ∧
        ScrAt K H' a b (ns.map V.int) ∧ Bag (899 - 20 * j - r) H' b ∧ H' L = some (.lst [.ref t1, .ref t2, .ref t3]) ∧ (∀ w ∈ [V.ref t1, .ref t2, .ref t3], PairOf H' w) ∧ NumAt H' lo p q ∧ NumAt H' hi p' q' ∧ Sz (200 + r) p q ∧ Sz (200 + r) p' q' ∧ p * q' < p' * q)
        ⟨_, _, lo, hi, p, q, p', q', rfl, sco.xb xd, hBd, xd _ _ nLb hLo, fun w hw => (hPo w hw).xb hBo xd, h1o.xb hBo xd, h2o.xb hBo xd, z1, z2, by omega⟩ ?_ ?_
      · rintro r σ H' hr ⟨y1, y2, lo, hi, p, q, p', q', rfl, sc, hB, hL', hP, h1, h2, z1, z2, hlt⟩
        have kr : 1 ≤ 200 + r ∧ 200 + r ≤ 7000 := by omega
        walk_at "v"; walk_at "v"
        refine ⟨_, _, p, q, p', q', 200 + r, rfl, h1, h2, kr, z1, z2, hlt, fun H1 s1 => ?_⟩
        walk_at "v"
        show (if (!true) = true then _ else _)
        refine iteF ?_
        walk_at "v"; walk_at "v"
        refine ⟨_, _, some (p, q), some (p', q'), 200 + r, rfl, h1.same s1, h2.same s1, kr, fun a b e => by cases e; exact z1, fun a b e => by cases e; exact z2, fun a b c d e1 e2 => by cases e1; cases e2; exact hlt, fun m H2 t' b' s2 hm zm lo1 hi1 => ?_⟩
        have lom := lo1 p q rfl
        have him := hi1 p' q' rfl
        have s12 := Same.trans s1 s2
        have hB2 := hB.same s12
        walk_at "v"
        refine ⟨b, 2, 899 - 20 * j - (r + 1), rfl, hB2.mono (by omega), by decide, by decide, fun d' H3 _ _ x3 hB3 => ?_⟩
        refine ⟨rfl, ?_⟩
        walk_at "v"
        have sc3 := (sc.xb (Xb.of s12)).xb x3
        have hL3 := x3 _ _ nLb (s12 _ _ hL')
        have hP3 : ∀ w ∈ [V.ref t1, .ref t2, .ref t3], PairOf H3 w := fun w hw => ((hP w hw).same s12).xb hB2 x3
        have h13 := (h1.same s12).xb hB2 x3
        have h23 := (h2.same s12).xb hB2 x3
        have hm3 := hm.xb hB2 x3
        refine iteD (fun _ => ?_) (fun _ => ?_)
        · walk_at "v"
          exact ⟨_, _, m, hi, t', b', p', q', rfl, sc3, hB3, hL3, hP3, hm3, h23, zm, z2.mono (by omega), him⟩
        · walk_at "v"
          exact ⟨_, _, lo, m, p, q, t', b', rfl, sc3, hB3, hL3, hP3, h13, hm3, z1.mono (by omega), zm, lom⟩
      · rintro σ H' ⟨y1, y2, lo, hi, p, q, p', q', rfl, sc, hB, hL', hP, _⟩
        exact hD _ _ ⟨_, _, _, _, _, _, _, _, _, _, _, rfl, sc, hB.mono (by omega), hL', hP⟩
    · refine ⟨0, rfl, by decide, by decide, ?_⟩
      refine for_range (lo := 0) (n := 0) (fun r σ H' => σ = [some (.ref a), w1, some (.ref b), w2, w3, w4, w5, some u, some v, w8, some lo, some hi, w11] ∧ H' = Ho) ⟨rfl, rfl⟩ (fun r σ H' hr _ => absurd hr (by omega)) ?_
      rintro σ H' ⟨rfl, rfl⟩
      exact hD _ _ ⟨_, _, _, _, _, _, _, _, _, _, _, rfl, sco, hBo.mono (by omega), hLo, hPo⟩
  have z1' : Sz 9000 p q := z1.mono (by decide)
  have z2' : Sz 9000 p' q' := z2.mono (by decide)
  walk_at "v"; walk_at "v"
  refine ⟨_, _, p, q, p', q', rfl, h1k, h2k, ⟨z1'.1, z1'.2, z2'.1, z2'.2⟩, fun Ho so => ?_⟩
  have sco := sck.xb (Xb.of so)
  have hBo := hBk.same so
  have hLo := so _ _ hLk
  have hPo : ∀ w ∈ [V.ref t1, .ref t2, .ref t3], PairOf Ho w := fun w hw => (hPk w hw).same so
  have h1o := h1k.same so
  have h2o := h2k.same so
  walk_at "ii"; walk_at "v"
  refine iteD (fun _ => ?_) (fun _ => ?_)
  · walk_at "v"; walk_at "v"
    refine ⟨_, _, rfl, ?_⟩
    exact inner Ho v u p' q' p q sco hBo hLo hPo h2o h1o z2 z1 _ fun σ' H' z => z
  · exact inner Ho u v p q p' q' sco hBo hLo hPo h1o h2o z1 z2 _ fun σ' H' z => z
end Md

set_option Elab.async false
set_option linter.all false
set_option maxRecDepth 100000
set_option maxHeartbeats 8000000
namespace Md
open PySem PySem.Spec PyProof.Rows PySem.Calls L2
/-! ### the text of the row, def by def -/
def top (i : Nat) : Stmt := PySem.Challenge.pw_mendrounds_k02_numbers_compared.main.body.getD i (.Pass ⟨0, 0, 0, 0⟩)
abbrev s_BadNumber___init__ : Stmt := inClass (top 3) 0
theorem sc_BadNumber___init__ : FnScope ["self", "thing"] ["self", "thing"] (defScope s_BadNumber___init__) := ⟨rfl, rfl, rfl, by decide +kernel, rfl, by decide +kernel, by decide +kernel⟩
abbrev s_is_whole : Stmt := top 5
theorem sc_is_whole : FnScope n_is_whole ["thing"] (defScope s_is_whole) := ⟨rfl, rfl, rfl, by decide +kernel, rfl, by decide +kernel, by decide +kernel⟩
abbrev s_number : Stmt := top 6
theorem sc_number : FnScope n_number ["top", "bottom"] (defScope s_number) := ⟨rfl, rfl, rfl, by decide +kernel, rfl, by decide +kernel, by decide +kernel⟩
abbrev s__over : Stmt := top 7
theorem sc__over : FnScope n__over ["value"] (defScope s__over) := ⟨rfl, rfl, rfl, by decide +kernel, rfl, by decide +kernel, by decide +kernel⟩
abbrev s_compare : Stmt := top 8
theorem sc_compare : FnScope n_compare ["one", "other"] (defScope s_compare) := ⟨rfl, rfl, rfl, by decide +kernel, rfl, by decide +kernel, by decide +kernel⟩
abbrev s__negative : Stmt := top 9
theorem sc__negative : FnScope n__negative ["over"] (defScope s__negative) := ⟨rfl, rfl, rfl, by decide +kernel, rfl, by decide +kernel, by decide +kernel⟩
abbrev s__simplest_above : Stmt := top 10
theorem sc__simplest_above : FnScope n__simplest_above ["low", "high"] (defScope s__simplest_above) := ⟨rfl, rfl, rfl, by decide +kernel, rfl, by decide +kernel, by decide +kernel⟩
abbrev s_between : Stmt := top 11
theorem sc_between : FnScope n_between ["low", "high"] (defScope s_between) := ⟨rfl, rfl, rfl, by decide +kernel, rfl, by decide +kernel, by decide +kernel⟩
abbrev s__law_bag : Stmt := top 13
theorem sc__law_bag : FnScope n__law_bag ["_law_script", "_law_at"] (defScope s__law_bag) := ⟨rfl, rfl, rfl, by decide +kernel, rfl, by decide +kernel, by decide +kernel⟩
abbrev s__law_take : Stmt := top 14
theorem sc__law_take : FnScope n__law_take ["_law_bag_here", "_law_many"] (defScope s__law_take) := ⟨rfl, rfl, rfl, by decide +kernel, rfl, by decide +kernel, by decide +kernel⟩
abbrev s__law_value : Stmt := top 15
theorem sc__law_value : FnScope n__law_value ["_law_p", "_law_q"] (defScope s__law_value) := ⟨rfl, rfl, rfl, by decide +kernel, rfl, by decide +kernel, by decide +kernel⟩
abbrev s__law_number : Stmt := top 16
theorem sc__law_number : FnScope n__law_number ["_law_bag_here"] (defScope s__law_number) := ⟨rfl, rfl, rfl, by decide +kernel, rfl, by decide +kernel, by decide +kernel⟩
abbrev s__law_pair : Stmt := top 17
theorem sc__law_pair : FnScope n__law_pair ["_law_value_here"] (defScope s__law_pair) := ⟨rfl, rfl, rfl, by decide +kernel, rfl, by decide +kernel, by decide +kernel⟩
abbrev s__law_order : Stmt := top 18
theorem sc__law_order : FnScope n__law_order ["_law_one", "_law_other"] (defScope s__law_order) := ⟨rfl, rfl, rfl, by decide +kernel, rfl, by decide +kernel, by decide +kernel⟩
abbrev s__law_is_int : Stmt := top 19
theorem sc__law_is_int : FnScope n__law_is_int ["_law_thing"] (defScope s__law_is_int) := ⟨rfl, rfl, rfl, by decide +kernel, rfl, by decide +kernel, by decide +kernel⟩
abbrev s__law_same : Stmt := top 20
theorem sc__law_same : FnScope n__law_same ["_law_actual", "_law_due"] (defScope s__law_same) := ⟨rfl, rfl, rfl, by decide +kernel, rfl, by decide +kernel, by decide +kernel⟩
abbrev s__law_is_lowest : Stmt := top 21
theorem sc__law_is_lowest : FnScope n__law_is_lowest ["_law_value_here"] (defScope s__law_is_lowest) := ⟨rfl, rfl, rfl, by decide +kernel, rfl, by decide +kernel, by decide +kernel⟩
abbrev s__law_compares : Stmt := top 22
theorem sc__law_compares : FnScope n__law_compares ["_law_one", "_law_other"] (defScope s__law_compares) := ⟨rfl, rfl, rfl, by decide +kernel, rfl, by decide +kernel, by decide +kernel⟩
abbrev s__law_stands : Stmt := top 23
theorem sc__law_stands : FnScope n__law_stands ["_law_low", "_law_high"] (defScope s__law_stands) := ⟨rfl, rfl, rfl, by decide +kernel, rfl, by decide +kernel, by decide +kernel⟩
abbrev s_law : Stmt := top 24
theorem sc_law : FnScope n_law ["_law_script"] (defScope s_law) := ⟨rfl, rfl, rfl, by decide +kernel, rfl, by decide +kernel, by decide +kernel⟩
section
variable {P : Program} {w : World} {K : PySem.W.Frag} {mg : Str → Option Value} {base : Heap} {A : Ads} {f : Addr} {fd : FuncData}
theorem ok_BadNumber___init__ (F : FunD K "__init__" "BadNumber.__init__" (defArgs s_BadNumber___init__) (defBody s_BadNumber___init__) (defScope s_BadNumber___init__) [] [] f fd) (T : OexC K A.cBadNumber) (hn : PySem.W.findIn K (.ref A.cBadNumber) "thing" = some none) : FnOk P w K mg base (L2.CX P w) 1 f fd ["self", "thing"] (sp_BadNumber___init__ K A) := by
  refine F.ok (CX := (L2.CX P w)) sc_BadNumber___init__ (fun vs H Q E h => len_xi h) (fun cdv A' outer s H vs Q E hr h => ⟨t_xi K "thing", ?_, pure_xi T hn h⟩)
  exact (pss_one (ps_ost (pv 0) (pv 1)))
theorem ok_is_whole (F : FunD K "is_whole" "is_whole" (defArgs s_is_whole) (defBody s_is_whole) (defScope s_is_whole) [] [] f fd) (fr_bool : mg "bool" = none) (fr_int : mg "int" = none) (fr_isinstance : mg "isinstance" = none) : FnOk P w K mg base (L2.CX P w) 1 f fd ["thing"] (sp_is_whole K A) := by
  refine F.ok (CX := (L2.CX P w)) sc_is_whole (fun vs H Q E h => len_is_whole h) (fun cdv A' outer s H vs Q E hr h => ⟨t_is_whole K A E, ?_, pure_is_whole h⟩)
  exact (pss_one (ps_ret (pe_and (pe_callB call_isi rfl fr_isinstance boot_isinstance (pa_cons (pv 0) (pa_cons (pe_bltn rfl fr_int boot_int rfl) pa_nil))) (pe_one (pe_not (pe_callB call_isi rfl fr_isinstance boot_isinstance (pa_cons (pv 0) (pa_cons (pe_bltn rfl fr_bool boot_bool rfl) pa_nil))))))))
theorem ok_number (F : FunD K "number" "number" (defArgs s_number) (defBody s_number) (defScope s_number) [.int 1] [] f fd) (gm_gcd : mg "gcd" = some (.builtin "math.gcd")) (k_BadNumber : Kx P w K mg base 1 "BadNumber" A.cBadNumber (sp_BadNumber___init__ K A)) : FnOk P w K mg base (L2.CX P w) 3 f fd ["top", "bottom"] (sp_number K A) := by
  refine F.ok (CX := (L2.CX P w)) sc_number (fun vs H Q E h => len_number h) (fun cdv A' outer s H vs Q E hr h => ⟨t_number K A E, ?_, pure_number h⟩)
  exact (pss_cons (ps_if (pt_cmpR op_eq (pv 1) pe_int (nomark _)) (pss_one (ps_raise rfl (takes_of rfl rfl rfl rfl) (pmk_cl k_BadNumber hr (by decide) rfl (pa_cons (pv 1) pa_nil)))) pss_nil)
    (pss_cons (ps_set (i := 2) sc_number.nd rfl (by first | exact Or.inl rfl | exact Or.inr rfl) (pe_callBfun cr_gcd rfl gm_gcd (pa_cons (pv 0) (pa_cons (pv 1) pa_nil))))
    (pss_cons (ps_if (pt_cmpR op_lt (pv 1) pe_int (nomark _)) (pss_one (ps_set (i := 2) sc_number.nd rfl (by first | exact Or.inl rfl | exact Or.inr rfl) (pe_un un_neg (pv 2)))) pss_nil)
    (pss_cons (ps_if (pt_cmpR op_eq (pv 1) (pv 2) (nomark _)) (pss_one (ps_ret (pe_op op_fdivG (pv 0) (pv 2)))) pss_nil)
    (pss_one (ps_ret (pe_tup (pa_cons (pe_op op_fdivG (pv 0) (pv 2)) (pa_cons (pe_op op_fdivG (pv 1) (pv 2)) pa_nil)))))))))
theorem ok__over (F : FunD K "_over" "_over" (defArgs s__over) (defBody s__over) (defScope s__over) [] [] f fd) (c_is_whole : Cl P w K mg base 1 "is_whole" (sp_is_whole K A) []) : FnOk P w K mg base (L2.CX P w) 2 f fd ["value"] (sp__over K A) := by
  refine F.ok (CX := (L2.CX P w)) sc__over (fun vs H Q E h => len__over h) (fun cdv A' outer s H vs Q E hr h => ⟨t__over K A E, ?_, pure__over h⟩)
  exact (pss_cons (ps_if (pt_val (pe_cl c_is_whole hr (by decide) rfl passL (pa_cons (pv 0) pa_nil))) (pss_one (ps_ret (pe_tup (pa_cons (pv 0) (pa_cons pe_int pa_nil))))) pss_nil)
    (pss_one (ps_ret (pv 0))))
theorem ok_compare (F : FunD K "compare" "compare" (defArgs s_compare) (defBody s_compare) (defScope s_compare) [] [] f fd) (c__over : Cl P w K mg base 2 "_over" (sp__over K A) []) : FnOk P w K mg base (L2.CX P w) 3 f fd ["one", "other"] (sp_compare K A) := by
  refine F.ok (CX := (L2.CX P w)) sc_compare (fun vs H Q E h => len_compare h) (fun cdv A' outer s H vs Q E hr h => ⟨t_compare K A E, ?_, pure_compare h⟩)
  exact (pss_cons (ps_asg (pe_cl c__over hr (by decide) rfl passL (pa_cons (pv 0) pa_nil)) (pg_tup rfl (pgs_cons (pg_name (i := 4) sc_compare.nd rfl (by first | exact Or.inl rfl | exact Or.inr rfl)) (pgs_cons (pg_name (i := 5) sc_compare.nd rfl (by first | exact Or.inl rfl | exact Or.inr rfl)) pgs_nil))))
    (pss_cons (ps_asg (pe_cl c__over hr (by decide) rfl passL (pa_cons (pv 1) pa_nil)) (pg_tup rfl (pgs_cons (pg_name (i := 6) sc_compare.nd rfl (by first | exact Or.inl rfl | exact Or.inr rfl)) (pgs_cons (pg_name (i := 7) sc_compare.nd rfl (by first | exact Or.inl rfl | exact Or.inr rfl)) pgs_nil))))
    (pss_cons (ps_set (i := 2) sc_compare.nd rfl (by first | exact Or.inl rfl | exact Or.inr rfl) (pe_op op_mulW (pv 4) (pv 7)))
    (pss_cons (ps_set (i := 3) sc_compare.nd rfl (by first | exact Or.inl rfl | exact Or.inr rfl) (pe_op op_mulW (pv 6) (pv 5)))
    (pss_cons (ps_if (pt_cmpR op_lt (pv 2) (pv 3) (nomark _)) (pss_one (ps_ret (pe_un un_neg pe_int))) pss_nil)
    (pss_one (ps_ret (pe_ifExp (pt_cmpR op_gt (pv 2) (pv 3) (nomark _)) pe_int pe_int))))))))
theorem ok__negative (F : FunD K "_negative" "_negative" (defArgs s__negative) (defBody s__negative) (defScope s__negative) [] [] f fd) : FnOk P w K mg base (L2.CX P w) 1 f fd ["over"] (sp__negative K A) := by
  refine F.ok (CX := (L2.CX P w)) sc__negative (fun vs H Q E h => len__negative h) (fun cdv A' outer s H vs Q E hr h => ⟨t__negative K A E, ?_, pure__negative h⟩)
  exact (pss_one (ps_ret (pe_tup (pa_cons (pe_un un_neg (pe_ix ix_seq (pv 0) pe_int (fun _ _ => rfl))) (pa_cons (pe_ix ix_seq (pv 0) pe_int (fun _ _ => rfl)) pa_nil)))))
theorem ok__simplest_above (F : FunD K "_simplest_above" "_simplest_above" (defArgs s__simplest_above) (defBody s__simplest_above) (defScope s__simplest_above) [] [] f fd) (c_number : Cl P w K mg base 3 "number" (sp_number K A) []) : FnOk P w K mg base (L2.CX P w) 4 f fd ["low", "high"] (sp__simplest_above K A) := by
  refine F.ok (CX := (L2.CX P w)) sc__simplest_above (fun vs H Q E h => len__simplest_above h) (fun cdv A' outer s H vs Q E hr h => ⟨t__simplest_above K A E, ?_, pure__simplest_above h⟩)
  exact (pss_cons (ps_set (i := 2) sc__simplest_above.nd rfl (by first | exact Or.inl rfl | exact Or.inr rfl) (pe_lst pa_nil))
    (pss_cons (ps_set (i := 3) sc__simplest_above.nd rfl (by first | exact Or.inl rfl | exact Or.inr rfl) (pe_op op_fdivW (pe_ix ix_seq (pv 0) pe_int (fun _ _ => rfl)) (pe_ix ix_seq (pv 0) pe_int (fun _ _ => rfl))))
    (pss_cons (ps_while (passes_of rfl) (pt_cmpR op_ge (pe_op op_mulW (pe_op op_add (pv 3) pe_int) (pe_ix ix_seq (pv 1) pe_int (fun _ _ => rfl))) (pe_ix ix_seq (pv 1) pe_int (fun _ _ => rfl)) (nomark _)) (pss_cons (ps_expr (pe_bm PySem.F.plainAttrs_list PySem.F.slot_list_append PySem.F.type_list_append mt_append (pv 2) (pa_cons (pv 3) pa_nil)))
    (pss_cons (ps_par (i := 0) (j := 1) rfl sc__simplest_above.nd rfl rfl (by decide) rfl rfl (pa_cons (pe_tup (pa_cons (pe_ix ix_seq (pv 1) pe_int (fun _ _ => rfl)) (pa_cons (pe_op op_sub (pe_ix ix_seq (pv 1) pe_int (fun _ _ => rfl)) (pe_op op_mulW (pv 3) (pe_ix ix_seq (pv 1) pe_int (fun _ _ => rfl)))) pa_nil))) (pa_cons (pe_tup (pa_cons (pe_ix ix_seq (pv 0) pe_int (fun _ _ => rfl)) (pa_cons (pe_op op_sub (pe_ix ix_seq (pv 0) pe_int (fun _ _ => rfl)) (pe_op op_mulW (pv 3) (pe_ix ix_seq (pv 0) pe_int (fun _ _ => rfl)))) pa_nil))) pa_nil)) rfl)
    (pss_one (ps_set (i := 3) sc__simplest_above.nd rfl (by first | exact Or.inl rfl | exact Or.inr rfl) (pe_op op_fdivW (pe_ix ix_seq (pv 0) pe_int (fun _ _ => rfl)) (pe_ix ix_seq (pv 0) pe_int (fun _ _ => rfl))))))))
    (pss_cons (ps_par (i := 5) (j := 6) rfl sc__simplest_above.nd rfl rfl (by decide) rfl rfl (pa_cons (pe_op op_add (pv 3) pe_int) (pa_cons pe_int pa_nil)) rfl)
    (pss_cons (ps_for (passes_of rfl) rfl (pi_list (pe_revL (pv 2))) (pg_name (i := 4) sc__simplest_above.nd rfl (by first | exact Or.inl rfl | exact Or.inr rfl)) (pss_one (ps_par (i := 5) (j := 6) rfl sc__simplest_above.nd rfl rfl (by decide) rfl rfl (pa_cons (pe_op op_add (pe_op op_mulW (pv 4) (pv 5)) (pv 6)) (pa_cons (pv 5) pa_nil)) rfl)))
    (pss_one (ps_ret (pe_cl c_number hr (by decide) rfl (passes_call (takes_of rfl rfl rfl rfl) (fun _ _ _ _ h => h)) (pa_cons (pv 5) (pa_cons (pv 6) pa_nil))))))))))
theorem ok_between (F : FunD K "between" "between" (defArgs s_between) (defBody s_between) (defScope s_between) [] [] f fd) (c__over : Cl P w K mg base 2 "_over" (sp__over K A) []) (c__simplest_above : Cl P w K mg base 4 "_simplest_above" (sp__simplest_above K A) []) (c__negative : Cl P w K mg base 1 "_negative" (sp__negative K A) []) (c_number : Cl P w K mg base 3 "number" (sp_number K A) []) : FnOk P w K mg base (L2.CX P w) 5 f fd ["low", "high"] (sp_between K A) := by
  refine F.ok (CX := (L2.CX P w)) sc_between (fun vs H Q E h => len_between h) (fun cdv A' outer s H vs Q E hr h => ⟨t_between K A E, ?_, pure_between h⟩)
  exact (pss_cons (ps_set (i := 2) sc_between.nd rfl (by first | exact Or.inl rfl | exact Or.inr rfl) (pe_ifExp (pt_cmpR op_isN1 (pv 0) pe_non (nomark _)) (pe_tup (pa_cons (pe_un un_neg pe_int) (pa_cons pe_int pa_nil))) (pe_cl c__over hr (by decide) rfl passL (pa_cons (pv 0) pa_nil))))
    (pss_cons (ps_set (i := 3) sc_between.nd rfl (by first | exact Or.inl rfl | exact Or.inr rfl) (pe_ifExp (pt_cmpR op_isN1 (pv 1) pe_non (nomark _)) (pe_tup (pa_cons pe_int (pa_cons pe_int pa_nil))) (pe_cl c__over hr (by decide) rfl passL (pa_cons (pv 1) pa_nil))))
    (pss_cons (ps_if (pt_chain op_lt op_lt (pe_ix ix_seq (pv 2) pe_int (fun _ _ => rfl)) pe_int (pe_ix ix_seq (pv 3) pe_int (fun _ _ => rfl))) (pss_one (ps_ret pe_int)) pss_nil)
    (pss_cons (ps_if (pt_cmpR op_ge (pe_ix ix_seq (pv 2) pe_int (fun _ _ => rfl)) pe_int (nomark _)) (pss_one (ps_ret (pe_cl c__simplest_above hr (by decide) rfl (passes_call (takes_of rfl rfl rfl rfl) (fun _ _ _ _ h => h)) (pa_cons (pv 2) (pa_cons (pv 3) pa_nil))))) pss_nil)
    (pss_cons (ps_asg (pe_cl c__over hr (by decide) rfl passL (pa_cons (pe_cl c__simplest_above hr (by decide) rfl (passes_call (takes_of rfl rfl rfl rfl) (fun _ _ _ _ h => h)) (pa_cons (pe_cl c__negative hr (by decide) rfl passL (pa_cons (pv 3) pa_nil)) (pa_cons (pe_cl c__negative hr (by decide) rfl passL (pa_cons (pv 2) pa_nil)) pa_nil))) pa_nil)) (pg_tup rfl (pgs_cons (pg_name (i := 4) sc_between.nd rfl (by first | exact Or.inl rfl | exact Or.inr rfl)) (pgs_cons (pg_name (i := 5) sc_between.nd rfl (by first | exact Or.inl rfl | exact Or.inr rfl)) pgs_nil))))
    (pss_one (ps_ret (pe_cl c_number hr (by decide) rfl (passes_call (takes_of rfl rfl rfl rfl) (fun _ _ _ _ h => h)) (pa_cons (pe_un un_neg (pv 4)) (pa_cons (pv 5) pa_nil))))))))))
theorem ok__law_bag (F : FunD K "_law_bag" "_law_bag" (defArgs s__law_bag) (defBody s__law_bag) (defScope s__law_bag) [] [] f fd) (fr_abs : mg "abs" = none) (fr_int : mg "int" = none) (fr_len : mg "len" = none) : FnOk P w K mg base (L2.CX P w) 1 f fd ["_law_script", "_law_at"] (sp__law_bag K A) := by
  refine F.ok (CX := (L2.CX P w)) sc__law_bag (fun vs H Q E h => len__law_bag h) (fun cdv A' outer s H vs Q E hr h => ⟨t__law_bag K A E, ?_, pure__law_bag h⟩)
  exact (pss_cons (ps_set (i := 2) sc__law_bag.nd rfl (by first | exact Or.inl rfl | exact Or.inr rfl) (pe_ifExp (pt_cmpR op_lt (pv 1) (pe_callB call_len rfl fr_len boot_len (pa_cons (pv 0) pa_nil)) (nomark _)) (pe_ix ix_seq (pv 0) (pv 1) (fun _ _ => rfl)) pe_int))
    (pss_cons (ps_set (i := 3) sc__law_bag.nd rfl (by first | exact Or.inl rfl | exact Or.inr rfl) (pe_ifExp (pt_cmpR op_ge (pe_callB call_abs rfl fr_abs boot_abs (pa_cons (pv 2) pa_nil)) (pe_op op_pow pe_int pe_int) (nomark _)) (pe_callB call_abs rfl fr_abs boot_abs (pa_cons (pv 2) pa_nil)) pe_int))
    (pss_one (ps_ret (pe_lst (pa_cons (pv 3) (pa_cons (pe_op op_add (pe_op op_add (pe_op op_mulW (pe_op op_mod (pe_callTy call_int1 rfl fr_int boot_int (pa_cons (pv 2) pa_nil)) pe_int) pe_int) (pe_op op_mulW pe_int (pv 1))) pe_int) (pa_cons pe_int pa_nil))))))))
theorem ok__law_take (F : FunD K "_law_take" "_law_take" (defArgs s__law_take) (defBody s__law_take) (defScope s__law_take) [] [] f fd) (fr_int : mg "int" = none) : FnOk P w K mg base (L2.CX P w) 1 f fd ["_law_bag_here", "_law_many"] (sp__law_take K A) := by
  refine F.ok (CX := (L2.CX P w)) sc__law_take (fun vs H Q E h => len__law_take h) (fun cdv A' outer s H vs Q E hr h => ⟨t__law_take K A E, ?_, pure__law_take h⟩)
  exact (pss_cons (ps_if (pt_cmpR op_gt (pe_ix ix_seq (pv 0) pe_int (fun _ _ => rfl)) pe_int (nomark _)) (pss_cons (ps_set (i := 3) sc__law_take.nd rfl (by first | exact Or.inl rfl | exact Or.inr rfl) (pe_op op_mod (pe_callTy call_int1 rfl fr_int boot_int (pa_cons (pe_ix ix_seq (pv 0) pe_int (fun _ _ => rfl)) pa_nil)) (pv 1)))
    (pss_cons (ps_asg (pe_op op_fdivW (pe_ix ix_seq (pv 0) pe_int (fun _ _ => rfl)) (pv 1)) (pg_sub (pv 0) pe_int set_list))
    (pss_one (ps_ret (pv 3))))) pss_nil)
    (pss_cons (ps_asg (pe_op op_add (pe_ix ix_seq (pv 0) pe_int (fun _ _ => rfl)) pe_int) (pg_sub (pv 0) pe_int set_list))
    (pss_cons (ps_set (i := 2) sc__law_take.nd rfl (by first | exact Or.inl rfl | exact Or.inr rfl) (pe_op op_mod (pe_callTy call_int1 rfl fr_int boot_int (pa_cons (pe_op op_pow (pe_op op_add (pe_ix ix_seq (pv 0) pe_int (fun _ _ => rfl)) (pe_op op_mulW pe_int (pe_ix ix_seq (pv 0) pe_int (fun _ _ => rfl)))) pe_int) pa_nil)) pe_int))
    (pss_cons (ps_set (i := 2) sc__law_take.nd rfl (by first | exact Or.inl rfl | exact Or.inr rfl) (pe_op op_mod (pe_callTy call_int1 rfl fr_int boot_int (pa_cons (pe_op op_pow (pe_op op_add (pv 2) (pe_op op_mulW pe_int (pe_ix ix_seq (pv 0) pe_int (fun _ _ => rfl)))) pe_int) pa_nil)) pe_int))
    (pss_one (ps_ret (pe_op op_mod (pe_callTy call_int1 rfl fr_int boot_int (pa_cons (pe_op op_fdivW (pv 2) pe_int) pa_nil)) (pv 1))))))))
theorem ok__law_value (F : FunD K "_law_value" "_law_value" (defArgs s__law_value) (defBody s__law_value) (defScope s__law_value) [] [] f fd) (fr_abs : mg "abs" = none) (fr_int : mg "int" = none) : FnOk P w K mg base (L2.CX P w) 1 f fd ["_law_p", "_law_q"] (sp__law_value K A) := by
  refine F.ok (CX := (L2.CX P w)) sc__law_value (fun vs H Q E h => len__law_value h) (fun cdv A' outer s H vs Q E hr h => ⟨t__law_value K A E, ?_, pure__law_value h⟩)
  exact (pss_cons (ps_par (i := 2) (j := 3) rfl sc__law_value.nd rfl rfl (by decide) rfl rfl (pa_cons (pe_callB call_abs rfl fr_abs boot_abs (pa_cons (pv 0) pa_nil)) (pa_cons (pv 1) pa_nil)) rfl)
    (pss_cons (ps_while (passes_of rfl) (pt_cmpR op_gt (pv 2) pe_int (nomark _)) (pss_one (ps_par (i := 2) (j := 3) rfl sc__law_value.nd rfl rfl (by decide) rfl rfl (pa_cons (pe_op op_mod (pe_callTy call_int1 rfl fr_int boot_int (pa_cons (pv 3) pa_nil)) (pv 2)) (pa_cons (pv 2) pa_nil)) rfl)))
    (pss_one (ps_ret (pe_ifExp (pt_cmpR op_eq (pv 1) (pv 3) (nomark _)) (pe_op op_fdivW (pv 0) (pv 3)) (pe_tup (pa_cons (pe_op op_fdivW (pv 0) (pv 3)) (pa_cons (pe_op op_fdivW (pv 1) (pv 3)) pa_nil))))))))
theorem ok__law_number (F : FunD K "_law_number" "_law_number" (defArgs s__law_number) (defBody s__law_number) (defScope s__law_number) [] [] f fd) (c__law_take : Cl P w K mg base 1 "_law_take" (sp__law_take K A) []) (c__law_value : Cl P w K mg base 1 "_law_value" (sp__law_value K A) []) : FnOk P w K mg base (L2.CX P w) 2 f fd ["_law_bag_here"] (sp__law_number K A) := by
  refine F.ok (CX := (L2.CX P w)) sc__law_number (fun vs H Q E h => len__law_number h) (fun cdv A' outer s H vs Q E hr h => ⟨t__law_number K A E, ?_, pure__law_number h⟩)
  exact (pss_cons (ps_if (pt_cmpR op_gt (pe_cl c__law_take hr (by decide) rfl passL (pa_cons (pv 0) (pa_cons pe_int pa_nil))) pe_int (nomark _)) (pss_one (ps_ret (pe_cl c__law_value hr (by decide) rfl passL (pa_cons (pe_op op_sub (pe_cl c__law_take hr (by decide) rfl passL (pa_cons (pv 0) (pa_cons pe_int pa_nil))) pe_int) (pa_cons (pe_op op_add pe_int (pe_cl c__law_take hr (by decide) rfl passL (pa_cons (pv 0) (pa_cons pe_int pa_nil)))) pa_nil))))) pss_nil)
    (pss_one (ps_ret (pe_cl c__law_value hr (by decide) rfl passL (pa_cons (pe_op op_sub (pe_cl c__law_take hr (by decide) rfl passL (pa_cons (pv 0) (pa_cons (pe_op op_add (pe_op op_mulW pe_int (pe_op op_pow pe_int pe_int)) pe_int) pa_nil))) (pe_op op_pow pe_int pe_int)) (pa_cons (pe_op op_add pe_int (pe_cl c__law_take hr (by decide) rfl passL (pa_cons (pv 0) (pa_cons (pe_op op_pow pe_int pe_int) pa_nil)))) pa_nil))))))
theorem ok__law_pair (F : FunD K "_law_pair" "_law_pair" (defArgs s__law_pair) (defBody s__law_pair) (defScope s__law_pair) [] [] f fd) (fr_isinstance : mg "isinstance" = none) (fr_tuple : mg "tuple" = none) : FnOk P w K mg base (L2.CX P w) 1 f fd ["_law_value_here"] (sp__law_pair K A) := by
  refine F.ok (CX := (L2.CX P w)) sc__law_pair (fun vs H Q E h => len__law_pair h) (fun cdv A' outer s H vs Q E hr h => ⟨t__law_pair K A E, ?_, pure__law_pair h⟩)
  exact (pss_one (ps_ret (pe_ifExp (pt_val (pe_callB call_isi rfl fr_isinstance boot_isinstance (pa_cons (pv 0) (pa_cons (pe_bltn rfl fr_tuple boot_tuple rfl) pa_nil)))) (pv 0) (pe_tup (pa_cons (pv 0) (pa_cons pe_int pa_nil))))))
theorem ok__law_order (F : FunD K "_law_order" "_law_order" (defArgs s__law_order) (defBody s__law_order) (defScope s__law_order) [] [] f fd) (c__law_pair : Cl P w K mg base 1 "_law_pair" (sp__law_pair K A) []) : FnOk P w K mg base (L2.CX P w) 2 f fd ["_law_one", "_law_other"] (sp__law_order K A) := by
  refine F.ok (CX := (L2.CX P w)) sc__law_order (fun vs H Q E h => len__law_order h) (fun cdv A' outer s H vs Q E hr h => ⟨t__law_order K A E, ?_, pure__law_order h⟩)
  exact (pss_cons (ps_par (i := 2) (j := 3) rfl sc__law_order.nd rfl rfl (by decide) rfl rfl (pa_cons (pe_cl c__law_pair hr (by decide) rfl passL (pa_cons (pv 0) pa_nil)) (pa_cons (pe_cl c__law_pair hr (by decide) rfl passL (pa_cons (pv 1) pa_nil)) pa_nil)) rfl)
    (pss_one (ps_ret (pe_op op_sub (pe_op op_mulW (pe_ix ix_seq (pv 2) pe_int (fun _ _ => rfl)) (pe_ix ix_seq (pv 3) pe_int (fun _ _ => rfl))) (pe_op op_mulW (pe_ix ix_seq (pv 3) pe_int (fun _ _ => rfl)) (pe_ix ix_seq (pv 2) pe_int (fun _ _ => rfl)))))))
theorem ok__law_is_int (F : FunD K "_law_is_int" "_law_is_int" (defArgs s__law_is_int) (defBody s__law_is_int) (defScope s__law_is_int) [] [] f fd) (fr_bool : mg "bool" = none) (fr_int : mg "int" = none) (fr_isinstance : mg "isinstance" = none) : FnOk P w K mg base (L2.CX P w) 1 f fd ["_law_thing"] (sp__law_is_int K A) := by
  refine F.ok (CX := (L2.CX P w)) sc__law_is_int (fun vs H Q E h => len__law_is_int h) (fun cdv A' outer s H vs Q E hr h => ⟨t__law_is_int K A E, ?_, pure__law_is_int h⟩)
  exact (pss_one (ps_ret (pe_and (pe_callB call_isi rfl fr_isinstance boot_isinstance (pa_cons (pv 0) (pa_cons (pe_bltn rfl fr_int boot_int rfl) pa_nil))) (pe_one (pe_not (pe_callB call_isi rfl fr_isinstance boot_isinstance (pa_cons (pv 0) (pa_cons (pe_bltn rfl fr_bool boot_bool rfl) pa_nil))))))))
theorem ok__law_same (F : FunD K "_law_same" "_law_same" (defArgs s__law_same) (defBody s__law_same) (defScope s__law_same) [] [] f fd) (fr_isinstance : mg "isinstance" = none) (fr_len : mg "len" = none) (fr_tuple : mg "tuple" = none) (c__law_is_int : Cl P w K mg base 1 "_law_is_int" (sp__law_is_int K A) []) : FnOk P w K mg base (L2.CX P w) 2 f fd ["_law_actual", "_law_due"] (sp__law_same K A) := by
  refine F.ok (CX := (L2.CX P w)) sc__law_same (fun vs H Q E h => len__law_same h) (fun cdv A' outer s H vs Q E hr h => ⟨t__law_same K A E, ?_, pure__law_same h⟩)
  exact (pss_cons (ps_if (pt_not (pt_val (pe_callB call_isi rfl fr_isinstance boot_isinstance (pa_cons (pv 1) (pa_cons (pe_bltn rfl fr_tuple boot_tuple rfl) pa_nil))))) (pss_one (ps_ret (pe_and (pe_cl c__law_is_int hr (by decide) rfl passL (pa_cons (pv 0) pa_nil)) (pe_one (pe_cmpR (op_eqD hr.units) (pv 0) (pv 1) (nomark _)))))) pss_nil)
    (pss_cons (ps_if (PW.pt (pw_or (pt_not (pt_val (pe_callB call_isi rfl fr_isinstance boot_isinstance (pa_cons (pv 0) (pa_cons (pe_bltn rfl fr_tuple boot_tuple rfl) pa_nil))))) (pw_or1 (pt_cmpR op_ne (pe_callB call_len rfl fr_len boot_len (pa_cons (pv 0) pa_nil)) pe_int (nomark _))))) (pss_one (ps_ret pe_bl)) pss_nil)
    (pss_one (ps_ret (pe_and (pe_cl c__law_is_int hr (by decide) rfl passL (pa_cons (pe_ix ix_seq (pv 0) pe_int (fun _ _ => rfl)) pa_nil)) (pe_and (pe_cl c__law_is_int hr (by decide) rfl passL (pa_cons (pe_ix ix_seq (pv 0) pe_int (fun _ _ => rfl)) pa_nil)) (pe_one (pe_cmpR (op_eqD hr.units) (pv 0) (pv 1) (nomark _)))))))))
theorem ok__law_is_lowest (F : FunD K "_law_is_lowest" "_law_is_lowest" (defArgs s__law_is_lowest) (defBody s__law_is_lowest) (defScope s__law_is_lowest) [] [] f fd) (fr_isinstance : mg "isinstance" = none) (fr_len : mg "len" = none) (fr_tuple : mg "tuple" = none) (c__law_is_int : Cl P w K mg base 1 "_law_is_int" (sp__law_is_int K A) []) (c__law_value : Cl P w K mg base 1 "_law_value" (sp__law_value K A) []) : FnOk P w K mg base (L2.CX P w) 2 f fd ["_law_value_here"] (sp__law_is_lowest K A) := by
  refine F.ok (CX := (L2.CX P w)) sc__law_is_lowest (fun vs H Q E h => len__law_is_lowest h) (fun cdv A' outer s H vs Q E hr h => ⟨t__law_is_lowest K A E, ?_, pure__law_is_lowest h⟩)
  exact (pss_cons (ps_if (pt_val (pe_cl c__law_is_int hr (by decide) rfl passL (pa_cons (pv 0) pa_nil))) (pss_one (ps_ret pe_bl)) pss_nil)
    (pss_cons (ps_if (PW.pt (pw_or (pt_not (pt_val (pe_callB call_isi rfl fr_isinstance boot_isinstance (pa_cons (pv 0) (pa_cons (pe_bltn rfl fr_tuple boot_tuple rfl) pa_nil))))) (pw_or (pt_cmpR op_ne (pe_callB call_len rfl fr_len boot_len (pa_cons (pv 0) pa_nil)) pe_int (nomark _)) (pw_or (pt_not (pt_val (pe_cl c__law_is_int hr (by decide) rfl passL (pa_cons (pe_ix ix_seq (pv 0) pe_int (fun _ _ => rfl)) pa_nil)))) (pw_or1 (pt_not (pt_val (pe_cl c__law_is_int hr (by decide) rfl passL (pa_cons (pe_ix ix_seq (pv 0) pe_int (fun _ _ => rfl)) pa_nil))))))))) (pss_one (ps_ret pe_bl)) pss_nil)
    (pss_one (ps_ret (pe_and (pe_cmpR op_gt (pe_ix ix_seq (pv 0) pe_int (fun _ _ => rfl)) pe_int (nomark _)) (pe_one (pe_cmpR (op_eqD hr.units) (pe_cl c__law_value hr (by decide) rfl passL (pa_cons (pe_ix ix_seq (pv 0) pe_int (fun _ _ => rfl)) (pa_cons (pe_ix ix_seq (pv 0) pe_int (fun _ _ => rfl)) pa_nil))) (pv 0) (nomark _))))))))
theorem ok__law_compares (F : FunD K "_law_compares" "_law_compares" (defArgs s__law_compares) (defBody s__law_compares) (defScope s__law_compares) [] [] f fd) (fr_int : mg "int" = none) (c__law_order : Cl P w K mg base 2 "_law_order" (sp__law_order K A) []) (c__law_same : Cl P w K mg base 2 "_law_same" (sp__law_same K A) []) (c_compare : Cl P w K mg base 3 "compare" (sp_compare K A) []) : FnOk P w K mg base (L2.CX P w) 4 f fd ["_law_one", "_law_other"] (sp__law_compares K A) := by
  refine F.ok (CX := (L2.CX P w)) sc__law_compares (fun vs H Q E h => len__law_compares h) (fun cdv A' outer s H vs Q E hr h => ⟨t__law_compares K A E, ?_, pure__law_compares h⟩)
  exact (pss_cons (ps_set (i := 2) sc__law_compares.nd rfl (by first | exact Or.inl rfl | exact Or.inr rfl) (pe_cl c__law_order hr (by decide) rfl passL (pa_cons (pv 0) (pa_cons (pv 1) pa_nil))))
    (pss_cons (ps_set (i := 3) sc__law_compares.nd rfl (by first | exact Or.inl rfl | exact Or.inr rfl) (pe_op op_sub (pe_callTy call_int1 rfl fr_int boot_int (pa_cons (pe_cmpR op_gt (pv 2) pe_int (nomark _)) pa_nil)) (pe_callTy call_int1 rfl fr_int boot_int (pa_cons (pe_cmpR op_lt (pv 2) pe_int (nomark _)) pa_nil))))
    (pss_cons (ps_if (PW.pt (pw_or (pt_not (pt_val (pe_cl c__law_same hr (by decide) rfl passL (pa_cons (pe_cl c_compare hr (by decide) rfl passL (pa_cons (pv 0) (pa_cons (pv 1) pa_nil))) (pa_cons (pv 3) pa_nil))))) (pw_or1 (pt_not (pt_val (pe_cl c__law_same hr (by decide) rfl passL (pa_cons (pe_cl c_compare hr (by decide) rfl passL (pa_cons (pv 1) (pa_cons (pv 0) pa_nil))) (pa_cons (pe_un un_neg (pv 3)) pa_nil)))))))) (pss_one (ps_ret pe_bl)) pss_nil)
    (pss_one (ps_ret (pe_cl c__law_same hr (by decide) rfl passL (pa_cons (pe_cl c_compare hr (by decide) rfl passL (pa_cons (pv 0) (pa_cons (pv 0) pa_nil))) (pa_cons pe_int pa_nil))))))))
theorem ok__law_stands (F : FunD K "_law_stands" "_law_stands" (defArgs s__law_stands) (defBody s__law_stands) (defScope s__law_stands) [] [] f fd) (c_between : Cl P w K mg base 5 "between" (sp_between K A) []) (c__law_is_lowest : Cl P w K mg base 2 "_law_is_lowest" (sp__law_is_lowest K A) []) (c__law_order : Cl P w K mg base 2 "_law_order" (sp__law_order K A) []) : FnOk P w K mg base (L2.CX P w) 6 f fd ["_law_low", "_law_high"] (sp__law_stands K A) := by
  refine F.ok (CX := (L2.CX P w)) sc__law_stands (fun vs H Q E h => len__law_stands h) (fun cdv A' outer s H vs Q E hr h => ⟨t__law_stands K A E, ?_, pure__law_stands h⟩)
  exact (pss_cons (ps_par3 (i := 2) (j := 3) (l := 4) rfl sc__law_stands.nd rfl rfl rfl (by decide) (by decide) (by decide) rfl rfl rfl (pa_cons (pe_cl c_between hr (by decide) rfl (passes_call (takes_of rfl rfl rfl rfl) (fun _ _ _ _ h => h)) (pa_cons (pv 0) (pa_cons (pv 1) pa_nil))) (pa_cons (pe_cl c_between hr (by decide) rfl (passes_call (takes_of rfl rfl rfl rfl) (fun _ _ _ _ h => h)) (pa_cons pe_non (pa_cons (pv 0) pa_nil))) (pa_cons (pe_cl c_between hr (by decide) rfl (passes_call (takes_of rfl rfl rfl rfl) (fun _ _ _ _ h => h)) (pa_cons (pv 1) (pa_cons pe_non pa_nil))) pa_nil))) rfl)
    (pss_cons (ps_if (PW.pt (pw_or (pt_not (pt_val (pe_cl c__law_is_lowest hr (by decide) rfl passL (pa_cons (pv 2) pa_nil)))) (pw_or (pt_not (pt_val (pe_cl c__law_is_lowest hr (by decide) rfl passL (pa_cons (pv 3) pa_nil)))) (pw_or1 (pt_not (pt_val (pe_cl c__law_is_lowest hr (by decide) rfl passL (pa_cons (pv 4) pa_nil)))))))) (pss_one (ps_ret pe_bl)) pss_nil)
    (pss_cons (ps_if (PW.pt (pw_or (pt_cmpR op_ge (pe_cl c__law_order hr (by decide) rfl passL (pa_cons (pv 0) (pa_cons (pv 2) pa_nil))) pe_int (nomark _)) (pw_or1 (pt_cmpR op_ge (pe_cl c__law_order hr (by decide) rfl passL (pa_cons (pv 2) (pa_cons (pv 1) pa_nil))) pe_int (nomark _))))) (pss_one (ps_ret pe_bl)) pss_nil)
    (pss_one (ps_ret (pe_and (pe_cmpR op_lt (pe_cl c__law_order hr (by decide) rfl passL (pa_cons (pv 3) (pa_cons (pv 0) pa_nil))) pe_int (nomark _)) (pe_one (pe_cmpR op_gt (pe_cl c__law_order hr (by decide) rfl passL (pa_cons (pv 4) (pa_cons (pv 1) pa_nil))) pe_int (nomark _)))))))))
theorem ok_law (F : FunD K "law" "law" (defArgs s_law) (defBody s_law) (defScope s_law) [] [] f fd) (fr_len : mg "len" = none) (fr_max : mg "max" = none) (fr_min : mg "min" = none) (fr_range : mg "range" = none) (c__law_is_lowest : Cl P w K mg base 2 "_law_is_lowest" (sp__law_is_lowest K A) []) (c_between : Cl P w K mg base 5 "between" (sp_between K A) []) (c__law_bag : Cl P w K mg base 1 "_law_bag" (sp__law_bag K A) []) (c__law_number : Cl P w K mg base 2 "_law_number" (sp__law_number K A) []) (c__law_pair : Cl P w K mg base 1 "_law_pair" (sp__law_pair K A) []) (c__law_value : Cl P w K mg base 1 "_law_value" (sp__law_value K A) []) (c__law_take : Cl P w K mg base 1 "_law_take" (sp__law_take K A) []) (c__law_compares : Cl P w K mg base 4 "_law_compares" (sp__law_compares K A) []) (c__law_order : Cl P w K mg base 2 "_law_order" (sp__law_order K A) []) (c__law_stands : Cl P w K mg base 6 "_law_stands" (sp__law_stands K A) []) : FnOk P w K mg base CX0 7 f fd ["_law_script"] (sp_law K) := by
  refine F.ok (CX := CX0) sc_law (fun vs H Q E h => len_law h) (fun cdv A' outer s H vs Q E hr h => ⟨t_law K A E, ?_, pure_law h⟩)
  exact (pss_cons (ps_if (pt_not (pt_val (pe_cl c__law_is_lowest hr (by decide) rfl passL (pa_cons (pe_cl c_between hr (by decide) rfl passL (pa_cons pe_non (pa_cons pe_non pa_nil))) pa_nil)))) (pss_one (ps_ret pe_bl)) pss_nil)
    (pss_cons (ps_for (passes_of rfl) rfl (pi_range1 rfl fr_range (pa_cons (pe_callB (call_max2 rfl) rfl fr_max boot_max (pa_cons pe_int (pa_cons (pe_callB (call_min2 rfl) rfl fr_min boot_min (pa_cons pe_int (pa_cons (pe_callB call_len rfl fr_len boot_len (pa_cons (pv 0) pa_nil)) pa_nil))) pa_nil))) pa_nil)) (pg_name (i := 1) sc_law.nd rfl (by first | exact Or.inl rfl | exact Or.inr rfl)) (pss_cons (ps_set (i := 2) sc_law.nd rfl (by first | exact Or.inl rfl | exact Or.inr rfl) (pe_cl c__law_bag hr (by decide) rfl passL (pa_cons (pv 0) (pa_cons (pv 1) pa_nil))))
    (pss_cons (ps_par (i := 5) (j := 6) rfl sc_law.nd rfl rfl (by decide) rfl rfl (pa_cons (pe_cl c__law_number hr (by decide) rfl passL (pa_cons (pv 2) pa_nil)) (pa_cons (pe_cl c__law_number hr (by decide) rfl passL (pa_cons (pv 2) pa_nil)) pa_nil)) rfl)
    (pss_cons (ps_set (i := 3) sc_law.nd rfl (by first | exact Or.inl rfl | exact Or.inr rfl) (pe_cl c__law_pair hr (by decide) rfl passL (pa_cons (pv 5) pa_nil)))
    (pss_cons (ps_set (i := 4) sc_law.nd rfl (by first | exact Or.inl rfl | exact Or.inr rfl) (pe_cl c__law_value hr (by decide) rfl passL (pa_cons (pe_op op_sub (pe_op op_add (pe_op op_mulW (pe_ix ix_seq (pv 3) pe_int (fun _ _ => rfl)) (pe_op op_pow pe_int pe_int)) (pe_cl c__law_take hr (by decide) rfl passL (pa_cons (pv 2) (pa_cons pe_int pa_nil)))) pe_int) (pa_cons (pe_op op_mulW (pe_ix ix_seq (pv 3) pe_int (fun _ _ => rfl)) (pe_op op_pow pe_int pe_int)) pa_nil))))
    (pss_one (ps_for (passes_of rfl) rfl (pi_list (pe_lst (pa_cons (pe_tup (pa_cons (pv 5) (pa_cons (pv 6) pa_nil))) (pa_cons (pe_tup (pa_cons (pv 5) (pa_cons (pv 4) pa_nil))) (pa_cons (pe_tup (pa_cons (pv 4) (pa_cons (pv 6) pa_nil))) pa_nil))))) (pg_tup rfl (pgs_cons (pg_name (i := 7) sc_law.nd rfl (by first | exact Or.inl rfl | exact Or.inr rfl)) (pgs_cons (pg_name (i := 8) sc_law.nd rfl (by first | exact Or.inl rfl | exact Or.inr rfl)) pgs_nil))) (pss_cons (ps_if (pt_not (pt_val (pe_cl c__law_compares hr (by decide) rfl passL (pa_cons (pv 7) (pa_cons (pv 8) pa_nil))))) (pss_one (ps_ret pe_bl)) pss_nil)
    (pss_cons (ps_par (i := 10) (j := 11) rfl sc_law.nd rfl rfl (by decide) rfl rfl (pa_cons (pv 7) (pa_cons (pv 8) pa_nil)) rfl)
    (pss_cons (ps_if (pt_cmpR op_gt (pe_cl c__law_order hr (by decide) rfl passL (pa_cons (pv 7) (pa_cons (pv 8) pa_nil))) pe_int (nomark _)) (pss_one (ps_par (i := 10) (j := 11) rfl sc_law.nd rfl rfl (by decide) rfl rfl (pa_cons (pv 8) (pa_cons (pv 7) pa_nil)) rfl)) pss_nil)
    (pss_one (ps_for (passes_of rfl) rfl (pi_range1 rfl fr_range (pa_cons (pe_ifExp (pt_cmpR op_lt (pe_cl c__law_order hr (by decide) rfl passL (pa_cons (pv 10) (pa_cons (pv 11) pa_nil))) pe_int (nomark _)) (pe_cl c__law_take hr (by decide) rfl passL (pa_cons (pv 2) (pa_cons pe_int pa_nil))) pe_int) pa_nil)) (pg_name (i := 9) sc_law.nd rfl (by first | exact Or.inl rfl | exact Or.inr rfl)) (pss_cons (ps_if (pt_not (pt_val (pe_cl c__law_stands hr (by decide) rfl passL (pa_cons (pv 10) (pa_cons (pv 11) pa_nil))))) (pss_one (ps_ret pe_bl)) pss_nil)
    (pss_cons (ps_set (i := 12) sc_law.nd rfl (by first | exact Or.inl rfl | exact Or.inr rfl) (pe_cl c_between hr (by decide) rfl passL (pa_cons (pv 10) (pa_cons (pv 11) pa_nil))))
    (pss_one (ps_if (pt_cmpR op_eq (pe_cl c__law_take hr (by decide) rfl passL (pa_cons (pv 2) (pa_cons pe_int pa_nil))) pe_int (nomark _)) (pss_one (ps_set (i := 10) sc_law.nd rfl (by first | exact Or.inl rfl | exact Or.inr rfl) (pv 12))) (pss_one (ps_set (i := 11) sc_law.nd rfl (by first | exact Or.inl rfl | exact Or.inr rfl) (pv 12)))))))))))))))))))
    (pss_one (ps_ret pe_bl))))
end
/-! ### the head: facts by names, the run -/
namespace Hd
def d_BadNumber___init__ : He.DefD := ⟨("BadNumber", some "__init__"), "__init__", "BadNumber.__init__", defArgs s_BadNumber___init__, defBody s_BadNumber___init__, defScope s_BadNumber___init__, [], []⟩
def d_is_whole : He.DefD := ⟨("is_whole", none), "is_whole", "is_whole", defArgs s_is_whole, defBody s_is_whole, defScope s_is_whole, [], []⟩
def d_number : He.DefD := ⟨("number", none), "number", "number", defArgs s_number, defBody s_number, defScope s_number, [.int 1], []⟩
def d__over : He.DefD := ⟨("_over", none), "_over", "_over", defArgs s__over, defBody s__over, defScope s__over, [], []⟩
def d_compare : He.DefD := ⟨("compare", none), "compare", "compare", defArgs s_compare, defBody s_compare, defScope s_compare, [], []⟩
def d__negative : He.DefD := ⟨("_negative", none), "_negative", "_negative", defArgs s__negative, defBody s__negative, defScope s__negative, [], []⟩
def d__simplest_above : He.DefD := ⟨("_simplest_above", none), "_simplest_above", "_simplest_above", defArgs s__simplest_above, defBody s__simplest_above, defScope s__simplest_above, [], []⟩
def d_between : He.DefD := ⟨("between", none), "between", "between", defArgs s_between, defBody s_between, defScope s_between, [], []⟩
def d__law_bag : He.DefD := ⟨("_law_bag", none), "_law_bag", "_law_bag", defArgs s__law_bag, defBody s__law_bag, defScope s__law_bag, [], []⟩
def d__law_take : He.DefD := ⟨("_law_take", none), "_law_take", "_law_take", defArgs s__law_take, defBody s__law_take, defScope s__law_take, [], []⟩
def d__law_value : He.DefD := ⟨("_law_value", none), "_law_value", "_law_value", defArgs s__law_value, defBody s__law_value, defScope s__law_value, [], []⟩
def d__law_number : He.DefD := ⟨("_law_number", none), "_law_number", "_law_number", defArgs s__law_number, defBody s__law_number, defScope s__law_number, [], []⟩
def d__law_pair : He.DefD := ⟨("_law_pair", none), "_law_pair", "_law_pair", defArgs s__law_pair, defBody s__law_pair, defScope s__law_pair, [], []⟩
def d__law_order : He.DefD := ⟨("_law_order", none), "_law_order", "_law_order", defArgs s__law_order, defBody s__law_order, defScope s__law_order, [], []⟩
def d__law_is_int : He.DefD := ⟨("_law_is_int", none), "_law_is_int", "_law_is_int", defArgs s__law_is_int, defBody s__law_is_int, defScope s__law_is_int, [], []⟩
def d__law_same : He.DefD := ⟨("_law_same", none), "_law_same", "_law_same", defArgs s__law_same, defBody s__law_same, defScope s__law_same, [], []⟩
def d__law_is_lowest : He.DefD := ⟨("_law_is_lowest", none), "_law_is_lowest", "_law_is_lowest", defArgs s__law_is_lowest, defBody s__law_is_lowest, defScope s__law_is_lowest, [], []⟩
def d__law_compares : He.DefD := ⟨("_law_compares", none), "_law_compares", "_law_compares", defArgs s__law_compares, defBody s__law_compares, defScope s__law_compares, [], []⟩
def d__law_stands : He.DefD := ⟨("_law_stands", none), "_law_stands", "_law_stands", defArgs s__law_stands, defBody s__law_stands, defScope s__law_stands, [], []⟩
def d_law : He.DefD := ⟨("law", none), "law", "law", defArgs s_law, defBody s_law, defScope s_law, [], []⟩
def fn : List He.DefD := [d_BadNumber___init__, d_is_whole, d_number, d__over, d_compare, d__negative, d__simplest_above, d_between, d__law_bag, d__law_take, d__law_value, d__law_number, d__law_pair, d__law_order, d__law_is_int, d__law_same, d__law_is_lowest, d__law_compares, d__law_stands, d_law]
def fa : List He.Fa := [.glo "is_whole", .glo "number", .glo "_over", .glo "compare", .glo "_negative", .glo "_simplest_above", .glo "between", .glo "_law_bag", .glo "_law_take", .glo "_law_value", .glo "_law_number", .glo "_law_pair", .glo "_law_order", .glo "_law_is_int", .glo "_law_same", .glo "_law_is_lowest", .glo "_law_compares", .glo "_law_stands", .glo "law", .glo "MendroundsError", .glo "BadNumber", .free "abs", .free "bool", .free "int", .free "isinstance", .free "len", .free "max", .free "min", .free "range", .free "tuple"]
def exs : List (PySem.W.Frag → Bool) := [(fun K => He.eqO (PySem.W.nsIn K mainGlobals "gcd") (some (some (.builtin "math.gcd")))), (fun K => oexB K (He.ga K "MendroundsError")), (fun K => oexB K (He.ga K "BadNumber")), (fun K => inoB K (He.ga K "BadNumber")), (fun K => noB K (He.ga K "BadNumber") "thing")]
def ex (K : PySem.W.Frag) : Bool := exs.all fun b => b K
def ads (K : PySem.W.Frag) : Ads := { cMendroundsError := He.ga K "MendroundsError", cBadNumber := He.ga K "BadNumber" }
abbrev R : PySem.W.OpenRow := PySem.W.OpenLaw.row PySem.Challenge.rw_mendrounds_k02_numbers_compared
abbrev hk : PySem.W.Hook := He.hookX 7 fa fn [] [] ex
def ob (s : PySem.W.SharedT) : He.AlX := He.obsX 7 fa fn [] [] ex (HandSHeadRun.getT s)
theorem ob_eq (s : PySem.W.SharedT) : ob s = hk.obs s.abs := He.obsX_eq (HandSHeadRun.getT_eq s)
def names0 : List PySem.Str := ["MendroundsError", "BadNumber", "is_whole", "number", "_over", "compare", "_negative", "_simplest_above", "between", "_law_bag", "_law_take", "_law_value", "_law_number", "_law_pair", "_law_order", "_law_is_int", "_law_same", "_law_is_lowest", "_law_compares", "_law_stands"]
def names : List PySem.Str := names0
theorem run (w : World) : HandSHeadRun.RunEqI R (PySem.W.view R.prog [0, 24]) hk ob 20000 names w := by
  unfold HandSHeadRun.RunEqI
  kernel_rfl
theorem facts {P : Program} {w : World} {K : PySem.W.Frag} {h : Heap} {mg : Str → Option Value} {f : Addr} (X : K.In h) (G : h.Ns mainGlobals mg) (hfa : mg ("law" : Str) = some (.ref f)) (c : He.SaysD fa fn K) (cx : ex K = true) :
    ∃ fd : FuncData, (∀ (s : Shared) (v : Value), BindsTo s fd ⟨[v], []⟩ [("_law_script", v)]) ∧ ∀ base : Heap, K.In base → base.Ns mainGlobals mg → FnOk P w K mg base CX0 7 f fd ["_law_script"] (sp_law K) := by
  have ce : ∀ (i : Nat) (b : PySem.W.Frag → Bool), exs[i]? = some b → b K = true := fun i b e => List.all_eq_true.mp cx b (List.mem_of_getElem? e)
  have e_gm_gcd : (He.eqO (PySem.W.nsIn K mainGlobals "gcd") (some (some (.builtin "math.gcd")))) = true := ce 0 _ rfl
  have e_oex_MendroundsError : (oexB K (He.ga K "MendroundsError")) = true := ce 1 _ rfl
  have e_oex_BadNumber : (oexB K (He.ga K "BadNumber")) = true := ce 2 _ rfl
  have e_ino_BadNumber : (inoB K (He.ga K "BadNumber")) = true := ce 3 _ rfl
  have e_no_BadNumber_thing : (noB K (He.ga K "BadNumber") "thing") = true := ce 4 _ rfl
  obtain ⟨fd_BadNumber___init__, F_BadNumber___init__⟩ := c.def_ 0 (d := d_BadNumber___init__) rfl
  obtain ⟨fd_is_whole, F_is_whole⟩ := c.def_ 1 (d := d_is_whole) rfl
  obtain ⟨fd_number, F_number⟩ := c.def_ 2 (d := d_number) rfl
  obtain ⟨fd__over, F__over⟩ := c.def_ 3 (d := d__over) rfl
  obtain ⟨fd_compare, F_compare⟩ := c.def_ 4 (d := d_compare) rfl
  obtain ⟨fd__negative, F__negative⟩ := c.def_ 5 (d := d__negative) rfl
  obtain ⟨fd__simplest_above, F__simplest_above⟩ := c.def_ 6 (d := d__simplest_above) rfl
  obtain ⟨fd_between, F_between⟩ := c.def_ 7 (d := d_between) rfl
  obtain ⟨fd__law_bag, F__law_bag⟩ := c.def_ 8 (d := d__law_bag) rfl
  obtain ⟨fd__law_take, F__law_take⟩ := c.def_ 9 (d := d__law_take) rfl
  obtain ⟨fd__law_value, F__law_value⟩ := c.def_ 10 (d := d__law_value) rfl
  obtain ⟨fd__law_number, F__law_number⟩ := c.def_ 11 (d := d__law_number) rfl
  obtain ⟨fd__law_pair, F__law_pair⟩ := c.def_ 12 (d := d__law_pair) rfl
  obtain ⟨fd__law_order, F__law_order⟩ := c.def_ 13 (d := d__law_order) rfl
  obtain ⟨fd__law_is_int, F__law_is_int⟩ := c.def_ 14 (d := d__law_is_int) rfl
  obtain ⟨fd__law_same, F__law_same⟩ := c.def_ 15 (d := d__law_same) rfl
  obtain ⟨fd__law_is_lowest, F__law_is_lowest⟩ := c.def_ 16 (d := d__law_is_lowest) rfl
  obtain ⟨fd__law_compares, F__law_compares⟩ := c.def_ 17 (d := d__law_compares) rfl
  obtain ⟨fd__law_stands, F__law_stands⟩ := c.def_ 18 (d := d__law_stands) rfl
  obtain ⟨fd_law, F_law⟩ := c.def_ 19 (d := d_law) rfl
  have e := hfa.symm.trans (He.glo_ok X G (c.fact 18 (f := .glo "law") rfl))
  cases e
  have fr_abs := He.free_ok X G (c.fact 21 (f := .free "abs") rfl)
  have fr_bool := He.free_ok X G (c.fact 22 (f := .free "bool") rfl)
  have fr_int := He.free_ok X G (c.fact 23 (f := .free "int") rfl)
  have fr_isinstance := He.free_ok X G (c.fact 24 (f := .free "isinstance") rfl)
  have fr_len := He.free_ok X G (c.fact 25 (f := .free "len") rfl)
  have fr_max := He.free_ok X G (c.fact 26 (f := .free "max") rfl)
  have fr_min := He.free_ok X G (c.fact 27 (f := .free "min") rfl)
  have fr_range := He.free_ok X G (c.fact 28 (f := .free "range") rfl)
  have fr_tuple := He.free_ok X G (c.fact 29 (f := .free "tuple") rfl)
  have gm_gcd := PySem.W.mg_of X G (He.eqO_ok e_gm_gcd)
  have bL := FunD.bindsA (ps := ["_law_script"]) F_law fun _ _ _ _ _ _ us hl => match us, hl with | [_], _ => rfl
  refine ⟨fd_law, fun s v => bL s [v] rfl, fun base _ _ => ?_⟩
  have G_BadNumber___init__ := ok_BadNumber___init__ (P := P) (w := w) (mg := mg) (base := base) (A := ads K) F_BadNumber___init__ (oexB_ok e_oex_BadNumber) (noB_ok e_no_BadNumber_thing)
  have b_BadNumber___init__ : Binds K fd_BadNumber___init__ ["self", "thing"] [] := F_BadNumber___init__.bindsN fun _ _ _ _ _ _ us hl => match us, hl with | [_, _], _ => rfl
  have k_BadNumber : Kx P w K mg base 1 "BadNumber" (ads K).cBadNumber (sp_BadNumber___init__ K (ads K)) := ⟨oexB_ok e_oex_BadNumber, _, _, _, (inoB_ok e_ino_BadNumber).1, (inoB_ok e_ino_BadNumber).2, G_BadNumber___init__, b_BadNumber___init__, He.glo_ok X G (c.fact 20 (f := .glo "BadNumber") rfl)⟩
  have G_is_whole := ok_is_whole (P := P) (w := w) (mg := mg) (base := base) (A := ads K) F_is_whole fr_bool fr_int fr_isinstance
  have b_is_whole : Binds K fd_is_whole ["thing"] [] := F_is_whole.bindsN fun _ _ _ _ _ _ us hl => match us, hl with | [_], _ => rfl
  have c_is_whole := cl_of G_is_whole (He.glo_ok X G (c.fact 0 (f := .glo "is_whole") rfl)) F_is_whole.kp b_is_whole
  have G_number := ok_number (P := P) (w := w) (mg := mg) (base := base) (A := ads K) F_number gm_gcd k_BadNumber
  obtain ⟨ds_number, dv_number, b0_number⟩ := F_number.binds1 (ps := ["top", "bottom"]) 2 1 (List.cons_ne_nil _ _) rfl fun _ _ _ _ _ _ _ us its hl hi => match us, its, hl, hi with | [_, _], [_], _, _ => ⟨_, rfl, rfl⟩
  have b_number : Binds K fd_number ["top", "bottom"] [] := by cases dv_number; exact b0_number
  have c_number := cl_of G_number (He.glo_ok X G (c.fact 1 (f := .glo "number") rfl)) F_number.kp b_number
  have G__over := ok__over (P := P) (w := w) (mg := mg) (base := base) (A := ads K) F__over c_is_whole
  have b__over : Binds K fd__over ["value"] [] := F__over.bindsN fun _ _ _ _ _ _ us hl => match us, hl with | [_], _ => rfl
  have c__over := cl_of G__over (He.glo_ok X G (c.fact 2 (f := .glo "_over") rfl)) F__over.kp b__over
  have G_compare := ok_compare (P := P) (w := w) (mg := mg) (base := base) (A := ads K) F_compare c__over
  have b_compare : Binds K fd_compare ["one", "other"] [] := F_compare.bindsN fun _ _ _ _ _ _ us hl => match us, hl with | [_, _], _ => rfl
  have c_compare := cl_of G_compare (He.glo_ok X G (c.fact 3 (f := .glo "compare") rfl)) F_compare.kp b_compare
  have G__negative := ok__negative (P := P) (w := w) (mg := mg) (base := base) (A := ads K) F__negative
  have b__negative : Binds K fd__negative ["over"] [] := F__negative.bindsN fun _ _ _ _ _ _ us hl => match us, hl with | [_], _ => rfl
  have c__negative := cl_of G__negative (He.glo_ok X G (c.fact 4 (f := .glo "_negative") rfl)) F__negative.kp b__negative
  have G__simplest_above := ok__simplest_above (P := P) (w := w) (mg := mg) (base := base) (A := ads K) F__simplest_above c_number
  have b__simplest_above : Binds K fd__simplest_above ["low", "high"] [] := F__simplest_above.bindsN fun _ _ _ _ _ _ us hl => match us, hl with | [_, _], _ => rfl
  have c__simplest_above := cl_of G__simplest_above (He.glo_ok X G (c.fact 5 (f := .glo "_simplest_above") rfl)) F__simplest_above.kp b__simplest_above
  have G_between := ok_between (P := P) (w := w) (mg := mg) (base := base) (A := ads K) F_between c__over c__simplest_above c__negative c_number
  have b_between : Binds K fd_between ["low", "high"] [] := F_between.bindsN fun _ _ _ _ _ _ us hl => match us, hl with | [_, _], _ => rfl
  have c_between := cl_of G_between (He.glo_ok X G (c.fact 6 (f := .glo "between") rfl)) F_between.kp b_between
  have G__law_bag := ok__law_bag (P := P) (w := w) (mg := mg) (base := base) (A := ads K) F__law_bag fr_abs fr_int fr_len
  have b__law_bag : Binds K fd__law_bag ["_law_script", "_law_at"] [] := F__law_bag.bindsN fun _ _ _ _ _ _ us hl => match us, hl with | [_, _], _ => rfl
  have c__law_bag := cl_of G__law_bag (He.glo_ok X G (c.fact 7 (f := .glo "_law_bag") rfl)) F__law_bag.kp b__law_bag
  have G__law_take := ok__law_take (P := P) (w := w) (mg := mg) (base := base) (A := ads K) F__law_take fr_int
  have b__law_take : Binds K fd__law_take ["_law_bag_here", "_law_many"] [] := F__law_take.bindsN fun _ _ _ _ _ _ us hl => match us, hl with | [_, _], _ => rfl
  have c__law_take := cl_of G__law_take (He.glo_ok X G (c.fact 8 (f := .glo "_law_take") rfl)) F__law_take.kp b__law_take
  have G__law_value := ok__law_value (P := P) (w := w) (mg := mg) (base := base) (A := ads K) F__law_value fr_abs fr_int
  have b__law_value : Binds K fd__law_value ["_law_p", "_law_q"] [] := F__law_value.bindsN fun _ _ _ _ _ _ us hl => match us, hl with | [_, _], _ => rfl
  have c__law_value := cl_of G__law_value (He.glo_ok X G (c.fact 9 (f := .glo "_law_value") rfl)) F__law_value.kp b__law_value
  have G__law_number := ok__law_number (P := P) (w := w) (mg := mg) (base := base) (A := ads K) F__law_number c__law_take c__law_value
  have b__law_number : Binds K fd__law_number ["_law_bag_here"] [] := F__law_number.bindsN fun _ _ _ _ _ _ us hl => match us, hl with | [_], _ => rfl
  have c__law_number := cl_of G__law_number (He.glo_ok X G (c.fact 10 (f := .glo "_law_number") rfl)) F__law_number.kp b__law_number
  have G__law_pair := ok__law_pair (P := P) (w := w) (mg := mg) (base := base) (A := ads K) F__law_pair fr_isinstance fr_tuple
  have b__law_pair : Binds K fd__law_pair ["_law_value_here"] [] := F__law_pair.bindsN fun _ _ _ _ _ _ us hl => match us, hl with | [_], _ => rfl
  have c__law_pair := cl_of G__law_pair (He.glo_ok X G (c.fact 11 (f := .glo "_law_pair") rfl)) F__law_pair.kp b__law_pair
  have G__law_order := ok__law_order (P := P) (w := w) (mg := mg) (base := base) (A := ads K) F__law_order c__law_pair
  have b__law_order : Binds K fd__law_order ["_law_one", "_law_other"] [] := F__law_order.bindsN fun _ _ _ _ _ _ us hl => match us, hl with | [_, _], _ => rfl
  have c__law_order := cl_of G__law_order (He.glo_ok X G (c.fact 12 (f := .glo "_law_order") rfl)) F__law_order.kp b__law_order
  have G__law_is_int := ok__law_is_int (P := P) (w := w) (mg := mg) (base := base) (A := ads K) F__law_is_int fr_bool fr_int fr_isinstance
  have b__law_is_int : Binds K fd__law_is_int ["_law_thing"] [] := F__law_is_int.bindsN fun _ _ _ _ _ _ us hl => match us, hl with | [_], _ => rfl
  have c__law_is_int := cl_of G__law_is_int (He.glo_ok X G (c.fact 13 (f := .glo "_law_is_int") rfl)) F__law_is_int.kp b__law_is_int
  have G__law_same := ok__law_same (P := P) (w := w) (mg := mg) (base := base) (A := ads K) F__law_same fr_isinstance fr_len fr_tuple c__law_is_int
  have b__law_same : Binds K fd__law_same ["_law_actual", "_law_due"] [] := F__law_same.bindsN fun _ _ _ _ _ _ us hl => match us, hl with | [_, _], _ => rfl
  have c__law_same := cl_of G__law_same (He.glo_ok X G (c.fact 14 (f := .glo "_law_same") rfl)) F__law_same.kp b__law_same
  have G__law_is_lowest := ok__law_is_lowest (P := P) (w := w) (mg := mg) (base := base) (A := ads K) F__law_is_lowest fr_isinstance fr_len fr_tuple c__law_is_int c__law_value
  have b__law_is_lowest : Binds K fd__law_is_lowest ["_law_value_here"] [] := F__law_is_lowest.bindsN fun _ _ _ _ _ _ us hl => match us, hl with | [_], _ => rfl
  have c__law_is_lowest := cl_of G__law_is_lowest (He.glo_ok X G (c.fact 15 (f := .glo "_law_is_lowest") rfl)) F__law_is_lowest.kp b__law_is_lowest
  have G__law_compares := ok__law_compares (P := P) (w := w) (mg := mg) (base := base) (A := ads K) F__law_compares fr_int c__law_order c__law_same c_compare
  have b__law_compares : Binds K fd__law_compares ["_law_one", "_law_other"] [] := F__law_compares.bindsN fun _ _ _ _ _ _ us hl => match us, hl with | [_, _], _ => rfl
  have c__law_compares := cl_of G__law_compares (He.glo_ok X G (c.fact 16 (f := .glo "_law_compares") rfl)) F__law_compares.kp b__law_compares
  have G__law_stands := ok__law_stands (P := P) (w := w) (mg := mg) (base := base) (A := ads K) F__law_stands c_between c__law_is_lowest c__law_order
  have b__law_stands : Binds K fd__law_stands ["_law_low", "_law_high"] [] := F__law_stands.bindsN fun _ _ _ _ _ _ us hl => match us, hl with | [_, _], _ => rfl
  have c__law_stands := cl_of G__law_stands (He.glo_ok X G (c.fact 17 (f := .glo "_law_stands") rfl)) F__law_stands.kp b__law_stands
  exact ok_law (A := ads K) F_law fr_len fr_max fr_min fr_range c__law_is_lowest c_between c__law_bag c__law_number c__law_pair c__law_value c__law_take c__law_compares c__law_order c__law_stands
end Hd
end Md
open PySem PySem.W PySem.Calls PyProof.Rows
set_option maxRecDepth 100000 in
set_option maxHeartbeats 0 in
theorem PySem.Challenge.cw_mendrounds_k02_numbers_compared_holds : PySem.Challenge.rw_mendrounds_k02_numbers_compared.Holds := by
  w_on; o_law
  refine HandSHeadRun.head_imp (r := OpenLaw.row PySem.Challenge.rw_mendrounds_k02_numbers_compared) (q := view (OpenLaw.row PySem.Challenge.rw_mendrounds_k02_numbers_compared).prog [0, 24]) (H := Md.Hd.hk) (ob := Md.Hd.ob) (M := 20000) (loose := Md.Hd.names) (d := HandSHeadRun.topDef (OpenLaw.row PySem.Challenge.rw_mendrounds_k02_numbers_compared).prog 24) (kwd := []) Md.Hd.ob_eq
    Md.Hd.run (by kernel_rfl) (by kernel_rfl) (by kernel_rfl) (by rfl) (by first | assumption | decide +kernel) (by decide +kernel) ⟨rfl, rfl, rfl, rfl, rfl, by decide +kernel⟩ ?hw ?hc
  case hw => w_witness2
  case hc =>
    refine L2.walk_ofE (l := PySem.Challenge.rw_mendrounds_k02_numbers_compared) (n := 63) (k := 7) (x := "_law_script") (CX := L2.CX0) rfl (by decide) (by kernel_rfl) ⟨rfl, by decide, by decide⟩ ?F (fun _ _ _ _ z => z)
    intro w mg fa h Y G hmg0
    obtain ⟨K, KX, c⟩ := Y
    have hmg : mg ("law" : PySem.Str) = some (.ref fa) := by
      have e : (HandSHeadRun.topDef (OpenLaw.row PySem.Challenge.rw_mendrounds_k02_numbers_compared).prog 24).name = ("law" : PySem.Str) := by kernel_rfl
      rw [← e]
      exact hmg0
    obtain ⟨fd, hb, hF⟩ := Md.Hd.facts (P := (PySem.Challenge.rw_mendrounds_k02_numbers_compared).prog) (w := w) KX G hmg c.t.d c.more
    exact ⟨K, fd, Md.sp_law K, KX, hb, fun H a ns hl _ hS => ⟨a, ns, rfl, hS, hl, fun _ => rfl⟩, hF⟩
